/- The program's reading of an expression as a type. -/
import Derived.Test.YtbcfeoobhemdcaaGreatZCutP
import Derived.Test.YtbcfeoobhemdcaaGreatZTyOwn
import Derived.Test.YtbcfeoobhemdcaaGreatQ1
import Derived.Deep.AppendLies
import Derived.Deep.RegionLaw
namespace Go.Proofs.YtbcfeoobhemdcaaGreat
open Go.RowKit Go.Lib

theorem rd_word {a : ByteArray} {l : List SX} (h : a ≠ ⟨#[]⟩) : (SX.mk a l).rd = atomTy a := by rw [SX.rd, if_neg h]
def restTy (k : Int) : List SX → TypeX
  | [] => .mk 0 ⟨#[]⟩ []
  | x :: r => .mk k x.atom (SX.rdL r)
theorem rd_list (l : List SX) : (SX.mk ⟨#[]⟩ l).rd = restTy (wordKind l) (wordRest l) := by
  rw [SX.rd, if_pos rfl]
  cases l with
  | nil => rfl
  | cons x r =>
    simp only [listRd, wordKind, wordRest, SX.rdL]
    by_cases h1 : x.atom = ⟨#[97, 115, 115, 111, 99]⟩
    · simp only [if_pos h1]
      cases r <;> rfl
    · simp only [if_neg h1]
      by_cases h2 : x.atom = ⟨#[100, 121, 110]⟩
      · simp only [if_pos h2]
        cases r <;> rfl
      · simp only [if_neg h2]
        rfl
theorem rdL_take : ∀ (l : List SX) (j : Nat) (h : j < l.length), SX.rdL (l.take (j + 1)) = SX.rdL (l.take j) ++ [l[j].rd]
  | x :: r, 0, _ => by simp [SX.rdL]
  | x :: r, j + 1, h => by
    rw [List.take_succ_cons, List.take_succ_cons, SX.rdL, SX.rdL, rdL_take r j (by simpa using h)]
    simp
theorem okL_at : ∀ (l : List SX), SX.okL l → ∀ (j : Nat) (h : j < l.length), l[j].ok
  | x :: r, ho, 0, _ => by rw [SX.okL] at ho; exact ho.1
  | x :: r, ho, j + 1, h => by rw [SX.okL] at ho; exact okL_at r ho.2 j (by simpa using h)
theorem rest_part (l : List SX) : SX.nodesL (wordRest l) ≤ SX.nodesL l ∧ (SX.okL l → SX.okL (wordRest l)) := by
  cases l with
  | nil => exact ⟨Nat.le_refl _, fun h => h⟩
  | cons x r =>
    rw [wordRest]
    split
    · exact ⟨by rw [SX.nodesL]; omega, fun h => by rw [SX.okL] at h; exact h.2⟩
    · split
      · exact ⟨by rw [SX.nodesL]; omega, fun h => by rw [SX.okL] at h; exact h.2⟩
      · exact ⟨Nat.le_refl _, fun h => h⟩
theorem sumLen : ∀ l : List SX, l.length ≤ SX.nodesL l
  | [] => by simp
  | x :: r => by have := sumLen r; have := SX.nodes_eq x; rw [SX.nodesL, List.length_cons]; omega
def RdX' (N : Nat) : Prop := ∀ (x : SX) (A : Option Addr) (c : Nat) (w : World), x.nodes < N → x.nodes ≤ 4294967296 → x.ok → SxRow w (Und w.heap.size) A c x.list → Calls Tryz.prog 30 #[.agg #[.string x.atom, .slice A x.list.length c]] w (TyOwn x.rd w)
theorem rdBoxes (w : World) (a : ByteArray) (V : Value) :
    Below w.heap.size w ((w.alloc (.cells #[.string a, V] 33)).alloc (.cells #[.int .i64 0, .string ⟨#[]⟩, .slice none 0 0] 26)) ∧
      Whole ((w.alloc (.cells #[.string a, V] 33)).alloc (.cells #[.int .i64 0, .string ⟨#[]⟩, .slice none 0 0] 26)) w.heap.size 33 #[.string a, V] ∧
      Whole ((w.alloc (.cells #[.string a, V] 33)).alloc (.cells #[.int .i64 0, .string ⟨#[]⟩, .slice none 0 0] 26)) (w.heap.size + 1) 26 #[.int .i64 0, .string ⟨#[]⟩, .slice none 0 0] := by
  refine ⟨((Below.refl _ _).alloc (Nat.le_refl _) _).alloc (by simp) _, (Whole.new w _ _).below ((Below.refl (w.heap.size + 1) _).alloc (by simp) _) (by omega), ?_⟩
  have h := Whole.new (w.alloc (.cells #[.string a, V] 33)) 26 #[.int .i64 0, .string ⟨#[]⟩, .slice none 0 0]
  rw [World.size_alloc] at h
  exact h

set_option maxRecDepth 100000 in
set_option maxHeartbeats 1000000 in
theorem rd_var (a : ByteArray) (l : List SX) (A : Option Addr) (c : Nat) (w : World) (ha : a.size ≤ 9223372036854775807) (hq : quoted a = true) :
    Calls Tryz.prog 30 #[.agg #[.string a, .slice A l.length c]] w (TyOwn (.mk 1 (a.extract 1 a.size) []) w) := by
  have HE := Lib.hid (((Below.refl w.heap.size w).alloc (Nat.le_refl _) (.cells #[.string a, .slice A l.length c] 33)).alloc (by simp) (.cells #[.int .i64 1, .string (a.extract 1 a.size), .slice none 0 0] 26))
  go_enter Tryz.func30, Tryz.ntmps30
  go_wp2_with fail
  refine (cutP a _ ha).mono ?_
  rintro e w1 ⟨rfl, rfl⟩
  rw [hq]
  clear hq
  go_wp2
  exact bodyPost_ret (v := .agg #[.int .i64 1, .string (a.extract 1 a.size), .slice none 0 0]) (by simp [results, Tryz.results30, go_sem]) rfl (TyOwn.bare _ _ HE.out)
set_option maxRecDepth 100000 in
set_option maxHeartbeats 1000000 in
theorem rd_con (a : ByteArray) (l : List SX) (A : Option Addr) (c : Nat) (w : World) (ha : a.size ≤ 9223372036854775807) (hq : quoted a = false) (hne : a ≠ ⟨#[]⟩) :
    Calls Tryz.prog 30 #[.agg #[.string a, .slice A l.length c]] w (TyOwn (.mk 2 a []) w) := by
  have HE := Lib.hid (((Below.refl w.heap.size w).alloc (Nat.le_refl _) (.cells #[.string a, .slice A l.length c] 33)).alloc (by simp) (.cells #[.int .i64 2, .string a, .slice none 0 0] 26))
  have he : a.toList.isEmpty = false := nonempty_of fun h => hne (empty_of h)
  go_enter Tryz.func30, Tryz.ntmps30
  go_wp2_with fail
  refine (cutP a _ ha).mono ?_
  rintro e w1 ⟨rfl, rfl⟩
  rw [hq]
  clear hq
  go_wp2
  exact bodyPost_ret (v := .agg #[.int .i64 2, .string a, .slice none 0 0]) (by simp [results, Tryz.results30, go_sem]) rfl (TyOwn.bare _ _ HE.out)
set_option maxRecDepth 100000 in
set_option maxHeartbeats 2000000 in
theorem rd_step (N : Nat) (ih : RdX' N) (l : List SX) (A : Option Addr) (c : Nat) (w : World) (hn : SX.nodesL l < N) (hs : SX.nodesL l ≤ 4294967295) (ho : SX.okL l) (hl : SxRow w (Und w.heap.size) A c l) :
    Calls Tryz.prog 30 #[.agg #[.string ⟨#[]⟩, .slice A l.length c]] w (TyOwn (SX.mk ⟨#[]⟩ l).rd w) := by
  obtain ⟨i0, hi0', hz0, hz1, hz2⟩ := info_parts infoTy
  obtain ⟨hp1, hp2⟩ := rest_part l
  have hp3 := hp2 ho
  have hq : quoted ⟨#[]⟩ = false := by decide
  obtain ⟨hb0, hbx, hrx⟩ := rdBoxes w ⟨#[]⟩ (.slice A l.length c)
  have HRD := Lib.hid (rd_list l)
  have HB := Lib.hid hb0
  have HX := Lib.hid hrx
  have HL := Lib.hid (hl.grow hb0)
  clear hb0 hbx hrx hl ho hp2
  go_enter Tryz.func30, Tryz.ntmps30
  go_wp2_with fail
  refine (cutP ⟨#[]⟩ _ (by decide)).mono ?_
  rintro e w1 ⟨rfl, rfl⟩
  rw [hq]
  clear hq
  go_wp2_with fail
  refine (splitW l A c _ HL.out).mono ?_
  rintro e w1 ⟨⟨A1, c1, rfl, hl1⟩, hb⟩
  have h1 : Below w.heap.size w w1 := HB.out.trans (hb.mono HB.out.size)
  have KX := Lib.hid (whole_keep HX.out hb)
  have hl2 : SxRow w1 (Und w1.heap.size) A1 c1 (wordRest l) := hl1.grow hb
  obtain ⟨k, hk⟩ : ∃ k, k = wordKind l := ⟨_, rfl⟩
  obtain ⟨rs, hrs⟩ : ∃ rs, rs = wordRest l := ⟨_, rfl⟩
  rw [← hk, ← hrs] at HRD ⊢
  rw [← hrs] at hl2 hp1 hp3
  have hsz1 : w.heap.size + 2 ≤ w1.heap.size := by have := hb.size; simpa using this
  clear hl1 hb hk hrs HL HX HB
  cases rs with
  | nil =>
    have hx1 := KX.out
    have HE := Lib.hid (tyRet (k := 0) (s := ⟨#[]⟩) (V := .slice none 0 0) hx1)
    obtain ⟨r0, r1, r2⟩ := cells3 hx1
    have rf0 := hx1.frozen 0
    have rf1 := hx1.frozen 1
    have rf2 := hx1.frozen 2
    have rl := hx1.lt
    have hlen : ((([] : List SX).length : Nat) : Int) = 0 := rfl
    clear hx1 hl2 hp1 hp3
    go_wp2
    obtain ⟨e0, e1, e2, hbut⟩ := HE.out _ rfl
    exact bodyPost_ret (v := .agg #[.int .i64 0, .string ⟨#[]⟩, .slice none 0 0]) (by simp [results, Tryz.results30, go_sem, e0, e1, e2]) rfl (by rw [HRD.out]; exact TyOwn.bare 0 ⟨#[]⟩ (h1.trans (hbut.to_below (by omega) h1.size)))
  | cons x r =>
    obtain ⟨b, o, A2, c2, rfl, hP, q0, q1, -⟩ := hl2.at_ (j := 0) (by simp)
    have hP : b < w1.heap.size := hP
    have hcap := hl2.cap
    rw [List.length_cons] at hcap
    rw [SX.nodesL] at hp1
    rw [SX.okL] at hp3
    have hxn := SX.nodes_eq x
    have hrl := sumLen r
    obtain ⟨hr1, hr2⟩ := hl2.rest
    have q0' : w1.cell? ⟨b, o, none⟩ = some (.string x.atom) := by simpa using q0
    have hne : ((r.length : Int) + 1 == 0) = false := by rw [beq_eq_false_iff_ne]; omega
    have hb2 : Below w1.heap.size w1 (w1.alloc (.cells #[.int .i64 k, .string x.atom, .slice none 0 0] 26)) := (Below.refl _ _).alloc (Nat.le_refl _) _
    have ho0 : OutT w (w1.alloc (.cells #[.int .i64 k, .string x.atom, .slice none 0 0] 26)) w1.heap.size k x.atom (.slice none 0 0) [] [] := ⟨KX.out.below hb2 KX.out.lt, Whole.new _ _ _, OwV_noTy _ _, by simp, hsz1, h1.trans (hb2.mono h1.size)⟩
    have HO0 := Lib.hid ho0
    have HOK := Lib.hid hp3.2
    have HR : Hid (∃ (A3 : Option Addr) (c3 : Nat), (c1 = 1 → A3 = some ⟨b, o, none⟩ ∧ c3 = 0) ∧ (c1 ≠ 1 → A3 = some ⟨b, o + 2, none⟩ ∧ c3 = c1 - 1) ∧ SxRow w1 (Und w1.heap.size) A3 c3 r) := Lib.hid (by
      by_cases h : c1 = 1
      · exact ⟨_, _, fun _ => ⟨rfl, rfl⟩, fun h' => absurd h h', hr1 h⟩
      · exact ⟨_, _, fun h' => absurd h' h, fun _ => ⟨rfl, rfl⟩, hr2 h⟩)
    obtain ⟨A3, c3, hA, hA', hr3⟩ := HR.out
    have HR3 := Lib.hid hr3
    have HN : Hid (SX.nodesL r < N ∧ SX.nodesL r ≤ 4294967295) := Lib.hid (by omega)
    have hrlen : r.length ≤ 4294967296 := by omega
    have HH1 := Lib.hid h1
    have HB2 := Lib.hid hb2
    clear hl2 q0 q1 hP hr1 hr2 hb2 ho0 hp3 hr3 HR KX hp1 hxn hrl hn hs h1 hsz1
    have main : ∀ (Q : Prop), Q → Q := fun _ h => h
    by_cases hc : c1 = 1
    · subst hc
      obtain ⟨rfl, rfl⟩ := hA rfl
      obtain rfl : r = [] := List.eq_nil_of_length_eq_zero (by omega)
      clear hA hA' main
      have HE := Lib.hid HO0.out.done
      have hx1 := HO0.out.rx
      obtain ⟨r0, r1, r2⟩ := cells3 hx1
      obtain ⟨t0, t1, t2⟩ := cells3 HO0.out.tx
      have rf0 := hx1.frozen 0
      have rf1 := hx1.frozen 1
      have rf2 := hx1.frozen 2
      have rl := hx1.lt
      clear hx1
      go_wp2
      refine wp_loop_rounds 1 ?_
      rw [rounds_succ]
      go_wp2
      obtain ⟨e0, e1, e2, e3⟩ := HE.out _ rfl
      exact bodyPost_ret (v := .agg #[.int .i64 k, .string x.atom, .slice none 0 0]) (by simp [results, Tryz.results30, go_sem, e0, e1, e2]) rfl (by rw [HRD.out]; exact e3)
    · obtain ⟨rfl, rfl⟩ := hA' hc
      clear hA hA' main
      go_wp2
      go_loopw [44] (fun iv wr => ∃ (j : Nat) (V : Value) (acc : List TypeX) (bs : List Nat), j ≤ r.length ∧ iv = .int .i64 j ∧ acc = SX.rdL (r.take j) ∧ acc.length = j ∧ OutT w wr w1.heap.size k x.atom V acc bs ∧ Below w1.heap.size w1 wr) (fun iv _ => r.length - (Go.RowKit.intOf iv).toNat)
      case atStart => exact ⟨0, _, [], [], Nat.zero_le _, rfl, by simp [SX.rdL], rfl, HO0.out, HB2.out⟩
      case round =>
        obtain ⟨j, V, acc, bs, hj, rfl, hacc, hlen, ho, hb1w⟩ := hrel
        have HAC := Lib.hid hacc
        have hal2 : acc.length ≤ 4294967298 := by omega
        have HLEN := Lib.hid hlen
        clear hacc hlen
        obtain ⟨Av, cv, hV⟩ := ho.shape
        subst hV
        by_cases hlt : j < r.length
        · obtain ⟨b', o', A', c', e', hP', q2, q3, k2⟩ := (HR3.out.grow hb1w).at_ hlt
          injection e' with e'
          injection e' with e1 e2
          subst e1 e2
          have hP' : b < wr.heap.size := hP'
          have hj0 : (0 : Int) ≤ (j : Int) := Int.natCast_nonneg _
          have hj1 : (j : Int) < (r.length : Int) := by omega
          have hnx : r[j].nodes < N := by have := SX.nodesL_at r j hlt; have := HN.out; omega
          have hnx2 : r[j].nodes ≤ 4294967296 := by have := SX.nodesL_at r j hlt; have := HN.out; omega
          have hbw : Below wr.heap.size wr (wr.alloc (.cells #[.string r[j].atom, .slice A' r[j].list.length c'] 33)) := (Below.refl _ _).alloc (Nat.le_refl _) _
          have hox := ho.grow hbw
          have x1 : wr.cell? ⟨w1.heap.size, 2, none⟩ = some (.slice Av acc.length cv) := by rw [ho.tx.cell]; rfl
          have xl := ho.tx.lt
          have HIH := Lib.hid (ih r[j] A' c' _ hnx hnx2 (okL_at r HOK.out j hlt) ((k2.grow hbw).grow ((Below.refl _ _).drew)))
          have HO := Lib.hid hox
          have HOin := Lib.hid ho.inB
          have hz : wr.heap.size + 1 = (wr.alloc (.cells #[.string r[j].atom, .slice A' r[j].list.length c'] 33)).heap.size := by simp
          have HBW := Lib.hid (hb1w.trans (hbw.mono hb1w.size))
          have HLT := Lib.hid (show w1.heap.size + 1 ≤ wr.heap.size from xl)
          clear k2 hnx hnx2 ho hbw hox hb1w
          go_wp2
          go_region_law (first
            | (refine step_append_lies _ (by rfl) _ _ _ (by rfl) (w1.heap.size + 1) 26 i0 _ 3 48 Tryz.underlying24 hi0' hz0 hz1 hz2 rfl (by omega) (.slice Av acc.length cv) acc.length vs6 (by rfl) (hown6.alloc _)
                 ⟨w6.heap.size, 0, none⟩ 1 1 [.int .i64 r[j].rd.kind_, .string r[j].rd.name_, .slice A r[j].rd.args_.length c] (by rfl) (by rfl) (news_ty w6 _ _ _ _) (one_ty _ _ _ _ _) (by omega) (by unfold maxLen; omega) (by omega) (by have := ho6.tx.lt; simp; omega) (w6.heap.size + 1) (by simp) ?_
               intro g' cap' w7 hown7 hgrow7 hat7 hlt7
               obtain ⟨x7, xf7, xl7⟩ := ho6.mid hgrow7)
            | (go_simp
               go_at_call 30
               refine HIH.out.mono ?_
               rintro e w6 ⟨A, c, bx, rfl, hx6, hn6, hb6⟩
               have hb6' := (Below.refl _ (wr.alloc (.cells #[.string r[j].atom, .slice A' r[j].list.length c'] 33))).drew.trans hb6
               have ho6 := HO.out.grow hb6'
               obtain ⟨vs6, hown6⟩ := ho6.row
               have x6 : w6.cell? ⟨w1.heap.size, 2, none⟩ = some (.slice Av acc.length cv) := by rw [ho6.tx.cell]; rfl
               have xl6 := ho6.tx.lt))
          all_goals (
            have hat8 : (Value.slice (some ⟨g', 0, none⟩) (acc.length + 1) cap').ownBlock = (Value.slice Av acc.length cv).ownBlock ∨ ∃ g'', (Value.slice (some ⟨g', 0, none⟩) (acc.length + 1) cap').ownBlock = some g'' ∧ w6.heap.size ≤ g'' := by
              rcases hat7 with h | h
              · exact .inl h.symm
              · exact .inr ⟨g', rfl, by omega⟩
            have hin6 := OwVs_lt _ hx6
            have hbz := HLT.out
            have hp := ho6.push hown6 (OwVs_wide (by simp; omega) _ hx6) hn6 (fun b hb hm => by have h1 := (hin6 b hm).1; have h2 := (HOin.out b hb).2; simp at h1; omega) hgrow7 hown7 hat8 _ rfl
            have hvlt := hown6.lt
            have hbb := ((HBW.out.trans (hb6'.mono HBW.out.size)).alloc (Nat.le_trans HBW.out.size hb6'.size) (.cells #[.int .i64 r[j].rd.kind_, .string r[j].rd.name_, .slice A r[j].rd.args_.length c] 26)).grown hgrow7 (by have := HBW.out.size; have := hb6'.size; simp; omega) (fun kk hk => by have := (hvlt kk hk).1; omega)
            have HP := Lib.hid hp
            have HBB := Lib.hid hbb
            clear hp hown7 hgrow7 hat7 hat8 hown6 hx6 hin6 hvlt hbb
            go_wp2
            go_roundw
            case rel =>
              obtain ⟨bs', hq⟩ := HP.out
              exact ⟨j + 1, _, _, bs', by omega, by go_num, by rw [HAC.out, rdL_take r j hlt], by rw [List.length_append, List.length_singleton, HLEN.out], hq, HBB.out.setCell (Nat.le_refl _) _⟩
            case measure => simp [Go.RowKit.intOf]; omega)
        · have hjl : j = r.length := by omega
          subst hjl
          have hac : acc = SX.rdL r := by have h := HAC.out; rwa [List.take_length] at h
          have HE := Lib.hid ho.done
          have HA := Lib.hid hac
          have hx1 := ho.rx
          obtain ⟨r0, r1, r2⟩ := cells3 hx1
          obtain ⟨t0, t1, t2⟩ := cells3 ho.tx
          have rf0 := hx1.frozen 0
          have rf1 := hx1.frozen 1
          have rf2 := hx1.frozen 2
          have rl := hx1.lt
          have tl := ho.tx.lt
          clear hx1 ho hac HAC HLEN hb1w
          go_wp2
          obtain ⟨e0, e1, e2, e3⟩ := HE.out _ rfl
          exact bodyPost_ret (v := .agg #[.int .i64 k, .string x.atom, .slice Av acc.length cv]) (by simp [results, Tryz.results30, go_sem, e0, e1, e2]) rfl (by rw [HRD.out, restTy, ← HA.out]; exact e3)
theorem readAll : ∀ N, RdX' N
  | 0 => fun _ _ _ _ h => absurd h (Nat.not_lt_zero _)
  | N + 1 => by
    rintro ⟨a, l⟩ A c w hn hs ho hl
    rw [SX.nodes] at hn hs
    rw [SX.ok] at ho
    by_cases ha : a = ⟨#[]⟩
    · subst ha
      exact rd_step N (readAll N) l A c w (by omega) (by omega) ho.2.2 hl
    · rw [rd_word ha, atomTy]
      cases hq : quoted a with
      | true =>
        rw [if_pos (of_decide_eq_true hq)]
        exact rd_var a l A c w ho.1 hq
      | false =>
        rw [if_neg (of_decide_eq_false hq)]
        exact rd_con a l A c w ho.1 hq ha
theorem readTy (x : SX) (A : Option Addr) (c : Nat) (w : World) (hs : x.nodes ≤ 4294967296) (ho : x.ok) (hl : SxRow w (Und w.heap.size) A c x.list) : Calls Tryz.prog 30 #[.agg #[.string x.atom, .slice A x.list.length c]] w (TyOwn x.rd w) :=
  readAll _ x A c w (Nat.lt_succ_self _) hs ho hl
end Go.Proofs.YtbcfeoobhemdcaaGreat

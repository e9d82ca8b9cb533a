/- The program's list of atoms and, behind them, encoded types. -/
import Derived.Test.YtbcfeoobhemdcaaGreatZSxOwn
import Derived.Test.YtbcfeoobhemdcaaGreatQ1
import Derived.Deep.AppendLies
import Derived.Deep.RegionLaw
namespace Go.Proofs.YtbcfeoobhemdcaaGreat
open Go.RowKit Go.Lib

/-- The kinds of a type that can be encoded. -/
def KindIn (k : Int) : Prop := k = 1 ∨ k = 2 ∨ k = 3 ∨ k = 4
mutual
def TypeX.kinds : TypeX → Prop
  | .mk k _ l => KindIn k ∧ TypeX.kindsL l
def TypeX.kindsL : List TypeX → Prop
  | [] => True
  | x :: r => x.kinds ∧ TypeX.kindsL r
end
theorem kindsL_at : ∀ (l : List TypeX), TypeX.kindsL l → ∀ (j : Nat) (h : j < l.length), l[j].kinds
  | x :: r, ho, 0, _ => by rw [TypeX.kindsL] at ho; exact ho.1
  | x :: r, ho, j + 1, h => by rw [TypeX.kindsL] at ho; exact kindsL_at r ho.2 j (by simpa using h)
def words (ss : List ByteArray) : List SX := ss.map fun s => .mk s []
theorem words_take (ss : List ByteArray) (j : Nat) (h : j < ss.length) : words (ss.take (j + 1)) = words (ss.take j) ++ [.mk ss[j] []] := by
  rw [words, words, List.take_succ_eq_append_getElem h, List.map_append]; rfl
theorem words_len (ss : List ByteArray) : (words ss).length = ss.length := by rw [words, List.length_map]

def EncX (N : Nat) : Prop := ∀ (x : TypeX) (A2 : Option Addr) (c2 : Nat) (w : World), DV.nodesL x.cells < N → x.size ≤ 4294967296 → x.brief → x.kinds → TypeRow w (Und w.heap.size) A2 c2 x.args_ → Calls Tryz.prog 21 #[.agg #[.int .i64 x.kind_, .string x.name_, .slice A2 x.args_.length c2]] w (SxOwn x.sx w)

set_option maxRecDepth 100000 in
set_option maxHeartbeats 4000000 in
theorem listWith (N : Nat) (ih : EncX N) (l : List TypeX) (ss : List ByteArray) (A1 A2 : Option Addr) (c1 c2 : Nat) (w : World) (hn : DV.nodesE (TypeX.rows l) ≤ N) (hs : TypeX.sizeL l ≤ 4294967296) (hbr : TypeX.briefL l) (hk : TypeX.kindsL l) (hss : ss.length ≤ 2)
    (h1 : Strs w A1 ss) (h2 : TypeRow w (Und w.heap.size) A2 c2 l) :
    Calls Tryz.prog 79 #[.slice A2 l.length c2, .slice A1 ss.length c1] w (SxOwn (.mk ⟨#[]⟩ (words ss ++ TypeX.sxL l)) w) := by
  have hll := sizeL_ge l
  obtain ⟨i0, hi0', hz0, hz1, hz2⟩ := info_parts infoSx
  have hcap := h2.cap
  have H1 := Lib.hid h1
  have H2 := Lib.hid h2
  have HN := Lib.hid hn
  have HBR := Lib.hid hbr
  have HK := Lib.hid hk
  have ho0 : OutL w ((w.alloc (.cells #[.string ⟨#[]⟩, .slice none 0 0] 33)).alloc (.cells #[.string ⟨#[]⟩, .slice none 0 0] 33)) (.slice none 0 0) [] [] := by
    refine ⟨(Whole.new w _ _).below ((Below.refl (w.heap.size + 1) _).alloc (by simp) _) (by omega), ?_, OwX_word _ _ _, by simp, by simp, ((Below.refl _ _).alloc (Nat.le_refl _) _).alloc (by simp) _⟩
    have h := Whole.new (w.alloc (.cells #[.string ⟨#[]⟩, .slice none 0 0] 33)) 33 #[.string ⟨#[]⟩, .slice none 0 0]
    rw [World.size_alloc] at h
    exact h
  have HO0 := Lib.hid ho0
  clear h1 h2 hn hbr hk ho0
  go_enter Tryz.func79, Tryz.ntmps79
  go_wp2
  go_loopw [12] (fun iv wr => ∃ (j : Nat) (V : Value) (acc : List SX) (bs : List Nat), j ≤ ss.length ∧ iv = .int .i64 j ∧ acc = words (ss.take j) ∧ acc.length = j ∧ OutL w wr V acc bs) (fun iv _ => ss.length - (Go.RowKit.intOf iv).toNat)
  case atStart => exact ⟨0, _, [], [], Nat.zero_le _, rfl, by simp [words], rfl, HO0.out⟩
  case round =>
    obtain ⟨j, V, acc, bs, hj, rfl, hacc, hlen, ho⟩ := hrel
    have HAC := Lib.hid hacc
    have hal1 : acc.length ≤ 2 := by omega
    have HLEN := Lib.hid hlen
    clear hacc hlen
    obtain ⟨Av, cv, hV⟩ := ho.shape
    subst hV
    have x0 : wr.cell? ⟨w.heap.size + 1, 0, none⟩ = some (.string ⟨#[]⟩) := by rw [ho.ox.cell]; rfl
    have x1 : wr.cell? ⟨w.heap.size + 1, 1, none⟩ = some (.slice Av acc.length cv) := by rw [ho.ox.cell]; rfl
    have xf := ho.ox.frozen 1
    have xl := ho.ox.lt
    have HO := Lib.hid ho
    clear ho
    by_cases hlt : j < ss.length
    · obtain ⟨g, o, rfl, hc⟩ := (H1.out.below HO.out.bel).at_ hlt
      obtain ⟨vs, hown⟩ := HO.out.row
      have hsz := HO.out.bel.size
      go_wp2_with (at_builtin; refine wpList_append_any rfl (.tmp 17) (.tmp 20) 31 rfl (w.heap.size + 2) 33 i0 _ 2 40 Tryz.underlying31 hi0' hz0 hz1 hz2 rfl (by decide) (.slice Av acc.length cv) acc.length vs rfl (hown.alloc _) (some ⟨wr.heap.size, 0, none⟩) 1 1 [.string ss[j], .slice none 0 0] rfl rfl (.inr ⟨_, rfl, news_sx wr _ _ _⟩) (one_sx _ _ _ _) (by unfold maxLen; omega) (by omega) (by simp; omega) (wr.heap.size + 1) (by simp) ?_)
      intro v' w7 hown7 hgrow7 hat7
      obtain ⟨A7, c7, hv7⟩ := own_nil hown7
      subst hv7
      obtain ⟨y0, y1, yf, yl⟩ := HO.out.mid hgrow7
      have hp := HO.out.push (y := .mk ss[j] []) hown (OwX_word _ _ _) (by simp) (by simp) (by simp) hgrow7 hown7 (hat7.imp id fun h => ⟨_, h, by omega⟩) _ rfl
      have HP := Lib.hid hp
      clear hp hown7 hgrow7 hat7 hown x0 x1 xf
      go_wp2
      go_roundw
      case rel =>
        obtain ⟨bs', hq⟩ := HP.out
        exact ⟨j + 1, _, _, bs', by omega, by go_num, by rw [HAC.out, words_take ss j hlt], by rw [List.length_append, List.length_singleton, HLEN.out], hq⟩
      case measure => simp [Go.RowKit.intOf]; omega
    · have hjl : j = ss.length := by omega
      subst hjl
      have hacc1 : acc = words ss := by have h := HAC.out; rwa [List.take_length] at h
      have HA1 := Lib.hid hacc1
      clear hacc1
      clear x0 x1 xf
      go_wp2
      go_loopw [26] (fun iv wr => ∃ (j : Nat) (V : Value) (acc : List SX) (bs : List Nat), j ≤ l.length ∧ iv = .int .i64 j ∧ acc = words ss ++ TypeX.sxL (l.take j) ∧ acc.length = ss.length + j ∧ OutL w wr V acc bs) (fun iv _ => l.length - (Go.RowKit.intOf iv).toNat)
      case atStart => exact ⟨0, _, _, bs, Nat.zero_le _, rfl, by rw [HA1.out]; simp [TypeX.sxL], by rw [HA1.out, words_len]; rfl, HO.out⟩
      case round =>
        clear HO HAC HLEN HA1 hal1
        obtain ⟨j, V, acc, bs, hj, rfl, hacc, hlen, ho⟩ := hrel
        have HAC := Lib.hid hacc
        have hal2 : acc.length ≤ 4294967298 := by omega
        have HLEN := Lib.hid hlen
        clear hacc hlen
        obtain ⟨Av, cv, hV⟩ := ho.shape
        subst hV
        by_cases hlt : j < l.length
        · obtain ⟨b, o, A', c', rfl, hP, q0, q1, q2, k2⟩ := (H2.out.grow ho.bel).at_ hlt
          have hP : b < wr.heap.size := hP
          have hj0 : (0 : Int) ≤ (j : Int) := Int.natCast_nonneg _
          have hj1 : (j : Int) < (l.length : Int) := by omega
          have hnx : DV.nodesL l[j].cells < N := by
            have h := nodesVE_at (TypeX.rows l) j (by rw [TypeX.rows_length]; exact hlt)
            rw [TypeX.rows_at l j hlt] at h
            have := HN.out
            omega
          have hsx : l[j].size ≤ 4294967296 := by have := TypeX.sizeL_take l j hlt; have := TypeX.sizeL_le l (j + 1); omega
          have hbw : Below wr.heap.size wr (wr.alloc (.cells #[.int .i64 l[j].kind_, .string l[j].name_, .slice A' l[j].args_.length c'] 26)) := (Below.refl _ _).alloc (Nat.le_refl _) _
          have hox := ho.grow hbw
          have hkx : TypeRow (wr.alloc (.cells #[.int .i64 l[j].kind_, .string l[j].name_, .slice A' l[j].args_.length c'] 26)) (Und (wr.alloc (.cells #[.int .i64 l[j].kind_, .string l[j].name_, .slice A' l[j].args_.length c'] 26)).heap.size) A' c' l[j].args_ := k2.grow hbw
          have x1 : wr.cell? ⟨w.heap.size + 1, 1, none⟩ = some (.slice Av acc.length cv) := by rw [ho.ox.cell]; rfl
          have xl := ho.ox.lt
          have HIH := Lib.hid (ih l[j] A' c' _ hnx hsx (briefL_at l HBR.out j hlt) (kindsL_at l HK.out j hlt) (hkx.grow ((Below.refl _ _).drew)))
          have HO := Lib.hid hox
          have HO0lt := Lib.hid (show w.heap.size + 2 ≤ wr.heap.size by have := ho.ox.lt; omega)
          have HOin := Lib.hid ho.inB
          have hz : wr.heap.size + 1 = (wr.alloc (.cells #[.int .i64 l[j].kind_, .string l[j].name_, .slice A' l[j].args_.length c'] 26)).heap.size := by simp
          clear k2 hnx hsx ho hbw hox hkx
          go_wp2
          go_region_law (first
            | (refine step_append_lies _ (by rfl) _ _ _ (by rfl) (w.heap.size + 2) 33 i0 _ 2 40 Tryz.underlying31 hi0' hz0 hz1 hz2 rfl (by omega) (.slice Av acc.length cv) acc.length vs6 (by rfl) (hown6.alloc _)
                 ⟨w6.heap.size, 0, none⟩ 1 1 [.string l[j].sx.atom, .slice A l[j].sx.list.length c] (by rfl) (by rfl) (news_sx w6 _ _ _) (one_sx _ _ _ _) (by omega) (by unfold maxLen; omega) (by omega) (by have := ho6.ox.lt; simp; omega) (w6.heap.size + 1) (by simp) ?_
               intro g' cap' w7 hown7 hgrow7 hat7 hlt7
               obtain ⟨y0, x7, xf7, xl7⟩ := ho6.mid hgrow7)
            | (go_simp
               go_at_call 21
               refine HIH.out.mono ?_
               rintro e w6 ⟨A, c, bx, rfl, hx6, hn6, hin6, hb6⟩
               have hb6' := (Below.refl _ (wr.alloc (.cells #[.int .i64 l[j].kind_, .string l[j].name_, .slice A' l[j].args_.length c'] 26))).drew.trans hb6
               have ho6 := HO.out.grow hb6'
               obtain ⟨vs6, hown6⟩ := ho6.row
               have x6 : w6.cell? ⟨w.heap.size + 1, 1, none⟩ = some (.slice Av acc.length cv) := by rw [ho6.ox.cell]; rfl
               have xl6 := ho6.ox.lt))
          all_goals (
            have hat8 : (Value.slice (some ⟨g', 0, none⟩) (acc.length + 1) cap').ownBlock = (Value.slice Av acc.length cv).ownBlock ∨ ∃ g'', (Value.slice (some ⟨g', 0, none⟩) (acc.length + 1) cap').ownBlock = some g'' ∧ w6.heap.size ≤ g'' := by
              rcases hat7 with h | h
              · exact .inl h.symm
              · exact .inr ⟨g', rfl, by omega⟩
            have hbz : w.heap.size + 2 ≤ wr.heap.size := HO0lt.out
            have hp := ho6.push hown6 (OwX_down (by simp; omega) _ hx6) hn6 (fun b hb => ⟨by have := (hin6 b hb).1; simp at this; omega, (hin6 b hb).2⟩) (fun b hb hm => by have h1 := (hin6 b hm).1; have h2 := (HOin.out b hb).2; simp at h1; omega) hgrow7 hown7 hat8 _ rfl
            have HP := Lib.hid hp
            clear hp hown7 hgrow7 hat7 hown6 hx6 hin6
            go_wp2
            go_roundw
            case rel =>
              obtain ⟨bs', hq⟩ := HP.out
              exact ⟨j + 1, _, _, bs', by omega, by go_num, by rw [HAC.out, sxL_take l j hlt, List.append_assoc], by rw [List.length_append, List.length_singleton, HLEN.out]; omega, hq⟩
            case measure => simp [Go.RowKit.intOf]; omega)
        · have hjl : j = l.length := by omega
          subst hjl
          have hac : acc = words ss ++ TypeX.sxL l := by have h := HAC.out; rwa [List.take_length] at h
          have HE := Lib.hid ho.done
          have HA := Lib.hid hac
          have x0 : wr.cell? ⟨w.heap.size + 1, 0, none⟩ = some (.string ⟨#[]⟩) := by rw [ho.ox.cell]; rfl
          have x1 : wr.cell? ⟨w.heap.size + 1, 1, none⟩ = some (.slice Av acc.length cv) := by rw [ho.ox.cell]; rfl
          have xl := ho.ox.lt
          have r0 : wr.cell? ⟨w.heap.size, 0, none⟩ = some (.string ⟨#[]⟩) := by rw [ho.rx.cell]; rfl
          have r1 : wr.cell? ⟨w.heap.size, 1, none⟩ = some (.slice none 0 0) := by rw [ho.rx.cell]; rfl
          have rf0 := ho.rx.frozen 0
          have rf1 := ho.rx.frozen 1
          have rl := ho.rx.lt
          clear ho hac HAC HLEN
          go_wp2
          obtain ⟨e0, e1, e2⟩ := HE.out _ rfl
          exact bodyPost_ret (v := .agg #[.string ⟨#[]⟩, .slice Av acc.length cv]) (by simp [results, Tryz.results79, go_sem, e0, e1]) rfl (by rw [← HA.out]; exact e2)
end Go.Proofs.YtbcfeoobhemdcaaGreat

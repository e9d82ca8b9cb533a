/- The program's SExprDepth, which keeps a stack of its own. -/
import Derived.Test.YtfcedkcfnifdfaaSizeImpl
import Derived.Test.YtfcedkcfnifdfaaSpecDepth
import Derived.Deep.Cut
import Derived.Deep.AppendLies
namespace Go.Proofs.Ytfcedkcfnifdfaa
open Go.RowKit Go.Lib

theorem infoListAt : (Try.prog.info? 62).map (fun i => (i.zero, i.size, i.bytes)) = some (some (.agg #[.slice none 0 0, .int .i64 0]), 2, 32) := by kernel_rfl

/-- Lists, each with a number. -/
def Works (w : World) (P : Nat → Prop) : List (List SX × Nat) → List Value → Prop
  | [], vs => vs = []
  | q :: r, vs => ∃ A c rest, vs = .slice A q.1.length c :: .int .i64 q.2 :: rest ∧ ListAt w P A q.1 ∧ Works w P r rest
theorem Works.length {w : World} {P : Nat → Prop} : ∀ {st : List (List SX × Nat)} {vs : List Value}, Works w P st vs → vs.length = st.length * 2
  | [], vs, h => by rw [Works] at h; subst h; rfl
  | l :: r, vs, h => by
    obtain ⟨A, c, rest, rfl, _, h2⟩ := h
    rw [List.length_cons, List.length_cons, List.length_cons, h2.length]; omega
theorem Works.snoc {w : World} {P : Nat → Prop} : ∀ {st : List (List SX × Nat)} {vs : List Value}, Works w P st vs → ∀ {l : List SX} {a : Nat} {A : Option Addr} {c : Nat}, ListAt w P A l → Works w P (st ++ [(l, a)]) (vs ++ [.slice A l.length c, .int .i64 a])
  | [], vs, h, l, a, A, c, hl => by
    rw [Works] at h; subst h
    exact ⟨A, c, [], rfl, hl, rfl⟩
  | y :: r, vs, h, l, a, A, c, hl => by
    obtain ⟨A', c', rest, rfl, h1, h2⟩ := h
    exact ⟨A', c', rest ++ _, rfl, h1, h2.snoc hl⟩
theorem Works.last {w : World} {P : Nat → Prop} : ∀ {st : List (List SX × Nat)} {l : List SX} {a : Nat} {vs : List Value}, Works w P (st ++ [(l, a)]) vs → ∃ vs0 A c, vs = vs0 ++ [.slice A l.length c, .int .i64 a] ∧ Works w P st vs0 ∧ ListAt w P A l
  | [], l, a, vs, h => by
    obtain ⟨A', c', rest, rfl, h1, h2⟩ := h
    rw [Works] at h2; subst h2
    exact ⟨[], A', c', rfl, rfl, h1⟩
  | y :: r, l, a, vs, h => by
    obtain ⟨A', c', rest, rfl, h1, h2⟩ := h
    obtain ⟨vs0, A, c, rfl, h3, h4⟩ := Works.last (st := r) h2
    exact ⟨_ :: _ :: vs0, A, c, rfl, ⟨A', c', vs0, rfl, h1, h3⟩, h4⟩

def mxW : List (List SX × Nat) → Nat
  | [] => 0
  | q :: r => max (q.2 + 1 + SX.depthL q.1) (mxW r)
theorem mxW_snoc : ∀ (st : List (List SX × Nat)) (l : List SX) (a : Nat), mxW (st ++ [(l, a)]) = max (mxW st) (a + 1 + SX.depthL l)
  | [], l, a => by simp [mxW]
  | q :: r, l, a => by rw [List.cons_append, mxW, mxW, mxW_snoc r l a]; omega
def potW (st : List (List SX × Nat)) : Nat := (st.map fun q => 1 + SX.nodesL q.1).sum
theorem potW_snoc (st : List (List SX × Nat)) (l : List SX) (a : Nat) : potW (st ++ [(l, a)]) = potW st + (1 + SX.nodesL l) := by simp [potW]
theorem length_potW : ∀ (st : List (List SX × Nat)), st.length ≤ potW st
  | [] => Nat.zero_le _
  | l :: r => by have := length_potW r; rw [potW, List.map_cons, List.sum_cons, ← potW, List.length_cons]; omega
theorem news_two (w : World) (t : TypeId) (a b : Value) : ∀ (j : Nat) (u : Value), [a, b][j]? = some u → (w.alloc (.cells #[a, b] t)).cell? ((⟨w.heap.size, 0, none⟩ : Addr).add j) = some u := news_sx w t a b
theorem keptAlloc {w : World} {h : Nat} {t : TypeId} {cs : Array Value} (hw : Whole w h t cs) (o : Obj) : Whole (w.alloc o) h t cs := hw.below ((Below.refl w.heap.size w).alloc (Nat.le_refl _) o) hw.lt
theorem one_work (A : Option Addr) (n c : Nat) (a : Int) : ∀ u ∈ [Value.slice A n c, Value.int .i64 a], u.oneCell' = true := by
  intro u hu
  simp at hu
  rcases hu with rfl | rfl <;> rfl

set_option maxRecDepth 100000 in
set_option maxHeartbeats 4000000 in
theorem implDepth (x : SX) (A : Option Addr) (c : Nat) (w : World) (hm : x.nodes ≤ 4294967296) (_hok : x.ok) (hl : ListAt w (Lt w.heap.size) A x.list) :
    Calls Try.prog 24 #[.agg #[.string x.atom, .slice A x.list.length c]] w fun e w' => e = .returned (.int .i64 x.depth) ∧ Below w.heap.size w w' := by
  obtain ⟨i0, hi, hz0, hz1, hz2⟩ := info_parts infoListAt
  have hne := SX.nodes_eq x
  have hde := SX.depth_eq x
  have hdn := SX.depth_le x
  by_cases ha : x.atom.size = 0
  · rw [if_pos ha] at hde
    rw [empty_of ha]
    clear ha
    have hrow := World.ownsRow_lit (base := w.heap.size + 1) (size := 2) (e := 62) (w.alloc (.cells #[.string ByteArray.empty, .slice A x.list.length c] 26)) #[.slice A x.list.length c, .int .i64 (0 : Nat)] 1 (by simp) (by decide) rfl
    rw [World.size_alloc] at hrow
    have hls : Works w (Lt w.heap.size) [(x.list, 0)] [.slice A x.list.length c, .int .i64 (0 : Nat)] := ⟨A, c, [], rfl, hl, rfl⟩
    have hb0 : Below w.heap.size w ((w.alloc (.cells #[.string ByteArray.empty, .slice A x.list.length c] 26)).alloc (.cells #[.slice A x.list.length c, .int .i64 0] 62)) := ((Below.refl _ _).alloc (Nat.le_refl _) _).alloc (by simp) _
    have HE := Lib.hid hne
    have HD := Lib.hid hde
    have HDN := Lib.hid hdn
    have HR := Lib.hid hrow
    have HLS := Lib.hid hls
    clear hne hl hrow hls hde hdn
    go_enter Try.func24, Try.ntmps24
    go_wp2
    go_loopg [3, 4] (potW [(x.list, 0)]) (fun gk sv lv wr => ∃ (st : List (List SX × Nat)) (vs : List Value) (z : Nat), sv = .int .i64 z ∧ wr.ownsRow (w.heap.size + 1) 62 2 lv st.length vs ∧ Works w (Lt w.heap.size) st vs ∧ max z (mxW st) = x.depth ∧ potW st ≤ x.nodes ∧ gk = potW st ∧ Below w.heap.size w wr ∧ w.heap.size + 1 ≤ wr.heap.size)
    case atStart => exact ⟨[(x.list, 0)], _, 0, rfl, HR.out, HLS.out, by rw [HD.out]; simp [mxW]; omega, by rw [HE.out]; simp [potW], rfl, hb0, by simp⟩
    case round =>
      obtain ⟨st, vs, z, rfl, hown, hls, hmx, hpot, rfl, hb, hbs⟩ := hrel
      rcases concat_cases st with rfl | ⟨st0, ⟨l, a⟩, rfl⟩
      · obtain ⟨A1, c1, rfl⟩ := own_nil hown
        have hz : z = x.depth := by simpa [mxW] using hmx
        have HZ := Lib.hid hz
        clear hown hls hmx hpot hz
        go_wp2
        go_ret
        exact ⟨ret_int (by rw [HZ.out]), hb⟩
      · have hlp := length_potW st0
        rw [mxW_snoc] at hmx
        rw [potW_snoc] at hpot
        rw [List.length_append, List.length_singleton] at hown
        obtain ⟨vs0, A1, c1, rfl, hls0, hl1⟩ := hls.last
        obtain ⟨g, cap, rfl⟩ := own_some hown
        obtain ⟨hown0, hcell, hcap, hcm, hBg, hgw⟩ := own_pop hown hls0.length rfl
        have hc0 : wr.cell? ⟨g, st0.length * 2, none⟩ = some (.slice A1 l.length c1) := hcell 0 (by decide)
        have hc1 : wr.cell? ⟨g, st0.length * 2 + 1, none⟩ = some (.int .i64 a) := hcell 1 (by decide)
        have hll := SX.nodesL_length l
        have hz32 : z ≤ 4294967296 := by have := HDN.out; omega
        have ha32 : a + 1 ≤ 4294967296 := by have := HDN.out; omega
        have hn32 : (st0.length : Int) + 1 ≤ 4294967296 := by omega
        have hl32 : l.length ≤ 4294967296 := by omega
        have HM := Lib.hid hmx
        have HP := Lib.hid hpot
        have HO := Lib.hid hown0
        have HL1 := Lib.hid hl1
        have HL0 := Lib.hid hls0
        have hbe : Below w.heap.size w (wr.alloc (.cells #[.slice A1 l.length c1, .int .i64 a] 62)) := hb.alloc hb.size _
        unfold maxLen at hcm
        clear hmx hpot hown hown0 hls hl1 hls0 hcell
        go_upto_region 10 with (fail)
        obtain ⟨m, hmd⟩ : ∃ m : Nat, m = max z (a + 1) := ⟨_, rfl⟩
        have hif : (if (z : Int) < (a : Int) + 1 then (a : Int) + 1 else (z : Int)) = (m : Int) := by split <;> omega
        rw [hif]
        have HMD := Lib.hid hmd
        clear hif hmd
        go_wp2
        clear hcm hcap hn32 hz32
        obtain ⟨wo, rfl⟩ : ∃ wo : World, wo = wr := ⟨_, rfl⟩
        have hwh : Whole (wo.alloc (.cells #[.slice A1 l.length c1, .int .i64 a] 62)) wo.heap.size 62 #[.slice A1 l.length c1, .int .i64 a] := Whole.new _ _ _
        go_loopw [4, 37] (fun lv iv wi => ∃ (k : Nat) (st' : List (List SX × Nat)) (vs' : List Value), k ≤ l.length ∧ iv = .int .i64 k ∧ wi.ownsRow (w.heap.size + 1) 62 2 lv st'.length vs' ∧ Works w (Lt w.heap.size) st' vs' ∧ max m (mxW st') = max (max m (mxW st0)) (a + 1 + SX.depthL (l.take k)) ∧ potW st' ≤ potW st0 + SX.nodesL (l.take k) ∧ lv.ownBlock ≠ some wo.heap.size ∧ Whole wi wo.heap.size 62 #[.slice A1 l.length c1, .int .i64 a] ∧ Below w.heap.size w wi ∧ w.heap.size + 1 ≤ wi.heap.size) (fun _ iv _ => l.length - (Go.RowKit.intOf iv).toNat)
        case atStart => exact ⟨0, st0, vs0, Nat.zero_le _, rfl, HO.out.alloc _, HL0.out, (by have := HMD.out; simp [SX.depthL]; omega), by simp [SX.nodesL], by simp [Value.ownBlock]; omega, hwh, hbe, by simp; omega⟩
        case round =>
          obtain ⟨k, st', vs', hk, rfl, hown', hls', hmx', hpot', hnb, hwi, hb', hbs'⟩ := hrel
          have hwl := hwi.lt
          by_cases hlt : k < l.length
          · obtain ⟨b, o, A', c', rfl, hPb, hw0, hw1, hl'⟩ := HL1.out.at_ hlt
            have hc0 := (hb'.cell (p := ⟨b, o + k * 2, none⟩) hPb).trans hw0
            have hc1 := (hb'.cell (p := ⟨b, o + k * 2 + 1, none⟩) hPb).trans hw1
            clear hw0 hw1
            have hst := SX.nodesL_take l k hlt
            have hdt := SX.depthL_take l k hlt
            have hne' := SX.nodes_eq l[k]
            have hde' := SX.depth_eq l[k]
            have hle := SX.nodesL_le l (k + 1)
            have hlp' := length_potW st'
            by_cases h0 : l[k].atom.size = 0
            · rw [if_pos h0] at hde'
              rw [empty_of h0] at hc0
              clear h0
              have hbe : Below w.heap.size w (wr.alloc (.cells #[.string ByteArray.empty, .slice A' l[k].list.length c'] 26)) := hb'.alloc hb'.size _
              have hm2 : max m (mxW (st' ++ [(l[k].list, a + 1)])) = max (max m (mxW st0)) (a + 1 + SX.depthL (l.take (k + 1))) := by rw [mxW_snoc]; omega
              have hp2 : potW (st' ++ [(l[k].list, a + 1)]) ≤ potW st0 + SX.nodesL (l.take (k + 1)) := by rw [potW_snoc]; omega
              have hls2 : Works w (Lt w.heap.size) (st' ++ [(l[k].list, a + 1)]) (vs' ++ [.slice A' l[k].list.length c', .int .i64 (a + 1 : Nat)]) := hls'.snoc hl'
              rw [show ((a + 1 : Nat) : Int) = (a : Int) + 1 by omega] at hls2
              have hln : (st' ++ [(l[k].list, a + 1)]).length = st'.length + 1 := by simp
              have hst32 : st'.length ≤ 4294967296 := by have := HP.out; omega
              have hown2 := hown'.alloc (.cells #[.string ByteArray.empty, .slice A' l[k].list.length c'] 26)
              have hwi2 := (keptAlloc hwi (.cells #[.string ByteArray.empty, .slice A' l[k].list.length c'] 26))
              have hx1 : wr.cell? ⟨wo.heap.size, 1, none⟩ = some (.int .i64 a) := by rw [hwi.cell]; rfl
              have hbse : w.heap.size + 1 ≤ (wr.alloc (.cells #[.string ByteArray.empty, .slice A' l[k].list.length c'] 26)).heap.size := by simp; omega
              have HM2 := Lib.hid hm2
              have HP2 := Lib.hid hp2
              have HLS' := Lib.hid hls2
              have HLN := Lib.hid hln
              have HNB := Lib.hid hnb
              clear hm2 hp2 hls' hls2 hown' hst hdt hne' hde' hle hlp' hl' hmx' hpot' hln hnb hwi
              go_wp2_with (at_builtin; refine wpList_append_lies _ (by rfl) _ _ _ (by rfl) (w.heap.size + 1) 62 i0 _ 2 32 Try.underlying63 hi hz0 hz1 hz2 rfl (by omega) _ _ _ (by rfl) (hown2.alloc _) ⟨wr.heap.size + 1, 0, none⟩ 1 1 [.slice A' l[k].list.length c', .int .i64 ((a : Int) + 1)] (by rfl) (by rfl) (by have h := news_two (wr.alloc (.cells #[.string ByteArray.empty, .slice A' l[k].list.length c'] 26)) 62 (.slice A' l[k].list.length c') (.int .i64 ((a : Int) + 1)); rw [World.size_alloc] at h; exact h) (one_work _ _ _ _) (by omega) (by unfold maxLen; omega) (by omega) (by simp; omega) (wr.heap.size + 2) (by simp) ?_)
              intro g' cap' w2 hown3 hgrow hat hlt2
              have hb3 := (hbe.alloc hbe.size (.cells #[.slice A' l[k].list.length c', .int .i64 ((a : Int) + 1)] 62)).grown hgrow (by simp; omega) (fun q hq => by have := (hown2.lt q hq).1; omega)
              have hbs3 : w.heap.size + 1 ≤ w2.heap.size := by have := hgrow.size; simp at this; omega
              have hwi3 : Whole w2 wo.heap.size 62 #[.slice (some ⟨b, o, none⟩) l.length c1, .int .i64 a] :=
                (hgrow.block wo.heap.size (by simp; omega) (Ne.symm HNB.out)).trans (keptAlloc hwi2 _)
              have hnb3 : (Value.slice (some ⟨g', 0, none⟩) (st'.length + 1) cap').ownBlock ≠ some wo.heap.size := by
                intro e
                rcases hat with hat | hat
                · exact HNB.out (hat.trans (by simpa [Value.ownBlock] using e))
                · have : g' = wo.heap.size := by simpa [Value.ownBlock] using e
                  omega
              rw [← HLN.out] at hown3 hnb3
              have HO := Lib.hid hown3
              have HNB3 := Lib.hid hnb3
              have hsl : (.slice (some ⟨g', 0, none⟩) (st' ++ [(l[k].list, a + 1)]).length cap' : Value) = .slice (some ⟨g', 0, none⟩) (st'.length + 1) cap' := by rw [HLN.out]
              have HSL := Lib.hid hsl
              clear hown2 hown3 hgrow hnb3 hsl hx1 hwi2
              go_wp2
              rw [← HSL.out]
              go_roundw
              case rel => exact ⟨k + 1, _, _, by omega, by go_num, HO.out, HLS'.out, HM2.out, HP2.out, HNB3.out, hwi3, hb3, hbs3⟩
              case measure => simp [Go.RowKit.intOf]; omega
            · rw [if_neg h0] at hde'
              have hnem := nonempty_of h0
              have hbe : Below w.heap.size w (wr.alloc (.cells #[.string l[k].atom, .slice A' l[k].list.length c'] 26)) := hb'.alloc hb'.size _
              have hm2 : max m (mxW st') = max (max m (mxW st0)) (a + 1 + SX.depthL (l.take (k + 1))) := by have := HMD.out; omega
              have hp2 : potW st' ≤ potW st0 + SX.nodesL (l.take (k + 1)) := by omega
              have hwi2 := (keptAlloc hwi (.cells #[.string l[k].atom, .slice A' l[k].list.length c'] 26))
              have HM2 := Lib.hid hm2
              have HP2 := Lib.hid hp2
              have HLS' := Lib.hid hls'
              have HNB := Lib.hid hnb
              have HO' := Lib.hid (hown'.alloc (.cells #[.string l[k].atom, .slice A' l[k].list.length c'] 26))
              clear hm2 hp2 hls' hown' hst hdt hne' hde' hle hlp' hl' hmx' hpot' hnb h0
              go_wp2
              go_roundw
              case rel => exact ⟨k + 1, st', vs', by omega, by go_num, HO'.out, HLS'.out, HM2.out, HP2.out, HNB.out, hwi2, hbe, by simp; omega⟩
              case measure => simp [Go.RowKit.intOf]; omega
          · have hkl : k = l.length := by omega
            subst hkl
            rw [List.take_length] at hmx' hpot'
            have hm2 : max m (mxW st') = x.depth := by have := HM.out; have := HMD.out; omega
            have hp2 : potW st' ≤ x.nodes := by have := HP.out; omega
            have hp3 : potW st' < potW (st0 ++ [(l, a)]) := by rw [potW_snoc]; omega
            have HM2 := Lib.hid hm2
            have HP2 := Lib.hid hp2
            have HP3 := Lib.hid hp3
            have HLS' := Lib.hid hls'
            have HO' := Lib.hid hown'
            have HNB := Lib.hid hnb
            clear hm2 hp2 hp3 hls' hown' hmx' hpot' hnb
            go_wp2
            go_roundg (potW st')
            case measure => exact HP3.out
            case rel => exact ⟨st', vs', m, rfl, HO'.out, HLS'.out, HM2.out, HP2.out, rfl, hb', hbs'⟩
  · rw [if_neg ha] at hde
    have HD := Lib.hid hde
    have hnem := nonempty_of ha
    clear hde hl
    go_enter Try.func24, Try.ntmps24
    go_wp2
    go_ret
    exact ⟨ret_int (by rw [HD.out]; rfl), (Below.refl _ _).alloc (Nat.le_refl _) _⟩
end Go.Proofs.Ytfcedkcfnifdfaa

/- The program's SExprSize, which keeps a stack of its own. -/
import Derived.Test.YtfcedkcfnifdfaaStack
import Derived.Test.YtfcedkcfnifdfaaSpecSx
import Derived.Deep.LoopGhost
namespace Go.Proofs.Ytfcedkcfnifdfaa
open Go.RowKit Go.Lib

theorem infoList : (Try.prog.info? 24).map (fun i => (i.zero, i.size, i.bytes)) = some (some (.slice none 0 0), 1, 24) := by kernel_rfl

/-- All nodes of these lists; and one more for each list. -/
def sumN (st : List (List SX)) : Nat := (st.map SX.nodesL).sum
def pot (st : List (List SX)) : Nat := (st.map fun l => 1 + SX.nodesL l).sum
theorem sumN_snoc (st : List (List SX)) (l : List SX) : sumN (st ++ [l]) = sumN st + SX.nodesL l := by simp [sumN]
theorem pot_snoc (st : List (List SX)) (l : List SX) : pot (st ++ [l]) = pot st + (1 + SX.nodesL l) := by simp [pot]
theorem length_pot : ∀ (st : List (List SX)), st.length ≤ pot st
  | [] => Nat.zero_le _
  | l :: r => by have := length_pot r; rw [pot, List.map_cons, List.sum_cons, ← pot, List.length_cons]; omega
theorem SX.nodesL_nil_of {l : List SX} (h : l.length = 0) : SX.nodesL l = 0 := by rw [List.eq_nil_of_length_eq_zero h, SX.nodesL]

set_option maxRecDepth 100000 in
set_option maxHeartbeats 2000000 in
theorem implSize (x : SX) (A : Option Addr) (c : Nat) (w : World) (hm : x.nodes ≤ 4294967296) (_hok : x.ok) (hl : ListAt w (Lt w.heap.size) A x.list) :
    Calls Try.prog 25 #[.agg #[.string x.atom, .slice A x.list.length c]] w fun e w' => e = .returned (.int .i64 x.nodes) ∧ Below w.heap.size w w' := by
  obtain ⟨i0, hi, hz0, hz1, hz2⟩ := info_parts infoList
  have hne := SX.nodes_eq x
  have hrow := World.ownsRow_lit (base := w.heap.size + 1) (size := 1) (e := 24) (w.alloc (.cells #[.string x.atom, .slice A x.list.length c] 26)) #[.slice A x.list.length c] 1 (by simp) (by decide) rfl
  rw [World.size_alloc] at hrow
  have hls : Lists w (Lt w.heap.size) [x.list] [.slice A x.list.length c] := ⟨A, c, [], rfl, hl, rfl⟩
  have hb0 : Below w.heap.size w ((w.alloc (.cells #[.string x.atom, .slice A x.list.length c] 26)).alloc (.cells #[.slice A x.list.length c] 24)) := ((Below.refl _ _).alloc (Nat.le_refl _) _).alloc (by simp) _
  have HE := Lib.hid hne
  have HR := Lib.hid hrow
  have HLS := Lib.hid hls
  clear hne hl hrow hls
  go_enter Try.func25, Try.ntmps25
  go_wp2
  go_loopg [3, 4] (pot [x.list]) (fun gk sv lv wr => ∃ (st : List (List SX)) (vs : List Value) (z : Nat), sv = .int .i64 z ∧ wr.ownsRow (w.heap.size + 1) 24 1 lv st.length vs ∧ Lists w (Lt w.heap.size) st vs ∧ z + sumN st = x.nodes ∧ pot st ≤ x.nodes ∧ gk = pot st ∧ Below w.heap.size w wr ∧ w.heap.size + 1 ≤ wr.heap.size)
  case atStart => exact ⟨[x.list], _, 1, rfl, HR.out, HLS.out, by rw [HE.out]; simp [sumN], by rw [HE.out]; simp [pot], rfl, hb0, by simp⟩
  case round =>
    obtain ⟨st, vs, z, rfl, hown, hls, hsum, hpot, rfl, hb, hbs⟩ := hrel
    rcases concat_cases st with rfl | ⟨st0, l, rfl⟩
    · obtain ⟨A1, c1, rfl⟩ := own_nil hown
      have hz : z = x.nodes := by simpa [sumN] using hsum
      have HZ := Lib.hid hz
      clear hown hls hsum hpot hz
      go_wp2
      go_ret
      exact ⟨ret_int (by rw [HZ.out]), hb⟩
    · have hlp := length_pot st0
      rw [sumN_snoc] at hsum
      rw [pot_snoc] at hpot
      rw [List.length_append, List.length_singleton] at hown
      obtain ⟨vs0, A1, c1, rfl, hls0, hl1⟩ := hls.last
      obtain ⟨g, cap, rfl⟩ := own_some hown
      obtain ⟨hown0, hcell, hcap, hcm, hBg, hgw⟩ := own_pop hown (by rw [hls0.length, Nat.mul_one]) rfl
      have hc0 : wr.cell? ⟨g, st0.length, none⟩ = some (.slice A1 l.length c1) := by have := hcell 0 (by decide); rw [Nat.mul_one, Nat.add_zero] at this; exact this
      have hll := SX.nodesL_length l
      have hps : (st0 ++ [l]).length = st0.length + 1 := by simp
      have HS := Lib.hid hsum
      have HP := Lib.hid hpot
      have HO := Lib.hid hown0
      have HL1 := Lib.hid hl1
      have HL0 := Lib.hid hls0
      have HPS := Lib.hid hps
      have hn32 : (st0.length : Int) + 1 ≤ 4294967296 := by omega
      have hz32 : z + l.length ≤ 4294967296 := by omega
      unfold maxLen at hcm
      clear hsum hpot hown hown0 hls hl1 hls0 hcell hps
      go_wp2
      obtain ⟨wo, rfl⟩ : ∃ wo : World, wo = wr := ⟨_, rfl⟩
      go_loopw [4, 31] (fun lv iv wi => ∃ (k : Nat) (st' : List (List SX)) (vs' : List Value), k ≤ l.length ∧ iv = .int .i64 k ∧ wi.ownsRow (w.heap.size + 1) 24 1 lv st'.length vs' ∧ Lists w (Lt w.heap.size) st' vs' ∧ sumN st' + k = sumN st0 + SX.nodesL (l.take k) ∧ pot st' ≤ pot st0 + SX.nodesL (l.take k) ∧ Below w.heap.size w wi ∧ w.heap.size + 1 ≤ wi.heap.size) (fun _ iv _ => l.length - (Go.RowKit.intOf iv).toNat)
      case atStart => exact ⟨0, st0, vs0, Nat.zero_le _, rfl, HO.out, HL0.out, by simp [SX.nodesL], by simp [SX.nodesL], hb, hbs⟩
      case round =>
        obtain ⟨k, st', vs', hk, rfl, hown', hls', hsum', hpot', hb', hbs'⟩ := hrel
        by_cases hlt : k < l.length
        · obtain ⟨b, o, A', c', rfl, hPb, hw0, hw1, hl'⟩ := HL1.out.at_ hlt
          have hc0 := (hb'.cell (p := ⟨b, o + k * 2, none⟩) hPb).trans hw0
          have hc1 := (hb'.cell (p := ⟨b, o + k * 2 + 1, none⟩) hPb).trans hw1
          clear hw0 hw1
          have hst := SX.nodesL_take l k hlt
          have hne' := SX.nodes_eq l[k]
          have hle := SX.nodesL_le l (k + 1)
          have hlp' := length_pot st'
          have hbe : Below w.heap.size w (wr.alloc (.cells #[.string l[k].atom, .slice A' l[k].list.length c'] 26)) := hb'.alloc hb'.size _
          by_cases h0 : 0 < l[k].list.length
          · have hs2 : sumN (st' ++ [l[k].list]) + (k + 1) = sumN st0 + SX.nodesL (l.take (k + 1)) := by rw [sumN_snoc]; omega
            have hp2 : pot (st' ++ [l[k].list]) ≤ pot st0 + SX.nodesL (l.take (k + 1)) := by rw [pot_snoc]; omega
            have hls2 : Lists w (Lt w.heap.size) (st' ++ [l[k].list]) (vs' ++ [.slice A' l[k].list.length c']) := hls'.snoc hl'
            have hln : (st' ++ [l[k].list]).length = st'.length + 1 := by simp
            have hst32 : st'.length ≤ 4294967296 := by have := HP.out; omega
            have hown2 := hown'.alloc (.cells #[.string l[k].atom, .slice A' l[k].list.length c'] 26)
            have hbse : w.heap.size + 1 ≤ (wr.alloc (.cells #[.string l[k].atom, .slice A' l[k].list.length c'] 26)).heap.size := by simp; omega
            have HS2 := Lib.hid hs2
            have HP2 := Lib.hid hp2
            have HLS' := Lib.hid hls2
            have HLN := Lib.hid hln
            clear hs2 hp2 hls' hls2 hown' hst hne' hle hlp' hl' hsum' hpot' hln
            go_wp2_with (at_builtin; refine wpList_append_own _ rfl _ _ 44 rfl (w.heap.size + 1) 24 i0 (.slice none 0 0) 1 24 Try.underlying44 hi hz0 hz1 hz2 rfl (by decide) _ _ _ rfl (hown2.alloc _) ⟨wr.heap.size + 1, 0, none⟩ 1 1 [.slice A' l[k].list.length c'] rfl rfl (by have h := news_one (wr.alloc (.cells #[.string l[k].atom, .slice A' l[k].list.length c'] 26)) 24 (.slice A' l[k].list.length c'); rw [World.size_alloc] at h; exact h) (one_slice _ _ _) (by unfold maxLen; omega) (by omega) (by simp; omega) ?_)
            intro v' w2 hown3 hgrow _
            have hb3 := (hbe.alloc hbe.size (.cells #[.slice A' l[k].list.length c'] 24)).grown hgrow (by simp; omega) (fun q hq => by have := (hown2.lt q hq).1; omega)
            have hbs3 : w.heap.size + 1 ≤ w2.heap.size := by have := hgrow.size; simp at this; omega
            rw [← HLN.out] at hown3
            have HO := Lib.hid hown3
            clear hown2 hown3 hgrow
            go_wp2
            go_roundw
            case rel => exact ⟨k + 1, _, _, by omega, by go_num, HO.out, HLS'.out, HS2.out, HP2.out, hb3, hbs3⟩
            case measure => simp [Go.RowKit.intOf]; omega
          · have hz0' := SX.nodesL_nil_of (l := l[k].list) (by omega)
            have hs2 : sumN st' + (k + 1) = sumN st0 + SX.nodesL (l.take (k + 1)) := by omega
            have hp2 : pot st' ≤ pot st0 + SX.nodesL (l.take (k + 1)) := by omega
            have HS2 := Lib.hid hs2
            have HP2 := Lib.hid hp2
            have HLS' := Lib.hid hls'
            have HO' := Lib.hid (hown'.alloc (.cells #[.string l[k].atom, .slice A' l[k].list.length c'] 26))
            clear hs2 hp2 hls' hown' hz0' hst hne' hle hlp' hl' hsum' hpot'
            go_wp2
            go_roundw
            case rel => exact ⟨k + 1, st', vs', by omega, by go_num, HO'.out, HLS'.out, HS2.out, HP2.out, hbe, by simp; omega⟩
            case measure => simp [Go.RowKit.intOf]; omega
        · have hkl : k = l.length := by omega
          subst hkl
          rw [List.take_length] at hsum' hpot'
          have hs2 : z + l.length + sumN st' = x.nodes := by have := HS.out; omega
          have hp2 : pot st' ≤ x.nodes := by have := HP.out; omega
          have hp3 : pot st' < pot (st0 ++ [l]) := by rw [pot_snoc]; omega
          have HS2 := Lib.hid hs2
          have HP2 := Lib.hid hp2
          have HP3 := Lib.hid hp3
          have HLS' := Lib.hid hls'
          have HO' := Lib.hid hown'
          clear hs2 hp2 hp3 hls' hown' hsum' hpot'
          go_wp2
          go_roundg (pot st')
          case measure => exact HP3.out
          case rel => exact ⟨st', vs', z + l.length, by go_num, HO'.out, HLS'.out, HS2.out, HP2.out, rfl, hb', hbs'⟩
end Go.Proofs.Ytfcedkcfnifdfaa

/- The law on a type's variables: IsValidType, TypeSize, TypeDepth, HasProjection agree with the reference model's, TypeVariables are each there, and no more often than the type is large. -/
import Derived.Test.YtenjlgcdbnddjaaDrawsTy
import Derived.Test.YtenjlgcdbnddjaaTySizeI
import Derived.Test.YtenjlgcdbnddjaaTyDepthI
import Derived.Test.YtenjlgcdbnddjaaTyHasI
import Derived.Test.YtenjlgcdbnddjaaTyValidI
import Derived.Test.YtenjlgcdbnddjaaTyVarsI
import Derived.Test.YtenjlgcdbnddjaaTyCountI
import Derived.Test.YtenjlgcdbnddjaaTyHas
import Derived.Test.YtenjlgcdbnddjaaBigEqual
import Derived.Test.YtenjlgcdbnddjaaUnion
import Derived.Test.YtenjlgcdbnddjaaMarkS
import Derived.Deep.RegionHeld3
namespace Go.Proofs.Ytenjlgcdbnddjaa
open Go.RowKit Go.Lib

set_option maxRecDepth 100000 in
set_option maxHeartbeats 4000000 in
theorem lawFnTy (A : Option Addr) (n c : Nat) (w : World) (hA : BytesAt w w.heap.size A n) (hn : n ≤ 9223372036854775807) :
    Calls Try.prog 3 #[.slice A n c] w fun e w' => e = .returned (.bool true) ∧ Below w.heap.size w w' := by
  have HA := Lib.hid hA
  clear hA
  by_cases hbig : n ≤ 1048576
  · go_enter Try.func3, Try.ntmps3
    go_wp2_with fail
    refine (bigNo A n c _ hbig).mono ?_
    rintro e w1 ⟨rfl, rfl⟩
    go_wp2_with fail
    refine (drawValidTy A n c _ HA.out (by omega)).mono ?_
    rintro e w1 ⟨x, A1, c1, rfl, hr1, hxs, hxt, hb1⟩
    have hok : DV.okL x.cells := x.tame_ok hxt (by omega)
    have hsz : x.size ≤ 4294967296 := by omega
    have hdp : x.depth ≤ 4294967296 := by have := TypeX.depth_size x; omega
    have nb : Below w1.heap.size w1 (w1.alloc (.cells #[.int .i64 x.kind_, .string x.name_, .slice A1 x.args_.length c1] 26)) := (Below.refl _ _).alloc (Nat.le_refl _) _
    have HBX := Lib.hid (Whole.new w1 26 #[.int .i64 x.kind_, .string x.name_, .slice A1 x.args_.length c1])
    have HR := Lib.hid (hr1.grow nb)
    have HB := Lib.hid (hb1.trans (nb.mono hb1.size))
    have HOK := Lib.hid hok
    have HT := Lib.hid hxt
    have HS := Lib.hid hxs
    clear hr1 nb hb1 hok hxt hxs
    obtain ⟨wb, hwb⟩ : ∃ wb, wb = w1.alloc (.cells #[.int .i64 x.kind_, .string x.name_, .slice A1 x.args_.length c1] 26) := ⟨_, rfl⟩
    rw [← hwb] at HBX HR HB
    go_wp2
    rw [← hwb]
    obtain ⟨p0, p1, p2⟩ := cells3 HBX.out
    have hcur : Below wb.heap.size wb wb.drew := (Below.refl _ wb).drew
    have HW := Lib.hid hwb
    clear hwb
    go_region_held3 (fun w' => w'.cell? ⟨w1.heap.size, 0, none⟩ = some (.int .i64 x.kind_) ∧ w'.cell? ⟨w1.heap.size, 1, none⟩ = some (.string x.name_) ∧ w'.cell? ⟨w1.heap.size, 2, none⟩ = some (.slice A1 x.args_.length c1))
      (first
       | go_keep
       | exact cells3 (whole_keep HBX.out hcur))
      (first
       | (go_at_call 13
          refine (implTyValidI x (.agg #[.int .i64 x.kind_, .string x.name_, .slice A1 x.args_.length c1]) _ HOK.out hsz ⟨_, _, rfl, HR.out.grow hcur⟩).mono ?_
          rintro e w9 ⟨rfl, hb9⟩
          have hcur := hcur.trans (hb9.mono hcur.size))
       | (go_at_call 14
          refine (specValidTy x (.agg #[.int .i64 x.kind_, .string x.name_, .slice A1 x.args_.length c1]) _ HOK.out ⟨_, _, rfl, HR.out.grow hcur⟩).mono ?_
          rintro e w9 ⟨rfl, hb9⟩
          have hcur := hcur.trans (hb9.mono hcur.size))
       | (go_at_call 15
          refine (implTySizeI x (.agg #[.int .i64 x.kind_, .string x.name_, .slice A1 x.args_.length c1]) _ hsz ⟨_, _, rfl, HR.out.grow hcur⟩).mono ?_
          rintro e w9 ⟨rfl, hb9⟩
          have hcur := hcur.trans (hb9.mono hcur.size))
       | (go_at_call 16
          refine (specTySize x (.agg #[.int .i64 x.kind_, .string x.name_, .slice A1 x.args_.length c1]) _ hsz ⟨_, _, rfl, HR.out.grow hcur⟩).mono ?_
          rintro e w9 ⟨rfl, hb9⟩
          have hcur := hcur.trans (hb9.mono hcur.size))
       | (go_at_call 17
          refine (implTyDepthI x (.agg #[.int .i64 x.kind_, .string x.name_, .slice A1 x.args_.length c1]) _ hsz ⟨_, _, rfl, HR.out.grow hcur⟩).mono ?_
          rintro e w9 ⟨rfl, hb9⟩
          have hcur := hcur.trans (hb9.mono hcur.size))
       | (go_at_call 18
          refine (specTyDepth x (.agg #[.int .i64 x.kind_, .string x.name_, .slice A1 x.args_.length c1]) _ hdp ⟨_, _, rfl, HR.out.grow hcur⟩).mono ?_
          rintro e w9 ⟨rfl, hb9⟩
          have hcur := hcur.trans (hb9.mono hcur.size))
       | (go_at_call 19
          refine (implTyHasI x (.agg #[.int .i64 x.kind_, .string x.name_, .slice A1 x.args_.length c1]) _ hsz ⟨_, _, rfl, HR.out.grow hcur⟩).mono ?_
          rintro e w9 ⟨rfl, hb9⟩
          have hcur := hcur.trans (hb9.mono hcur.size))
       | (go_at_call 20
          refine (specTyHas x (.agg #[.int .i64 x.kind_, .string x.name_, .slice A1 x.args_.length c1]) _ ⟨_, _, rfl, HR.out.grow hcur⟩).mono ?_
          rintro e w9 ⟨rfl, hb9⟩
          have hcur := hcur.trans (hb9.mono hcur.size)))
    have hnl := TypeX.names_len x
    have hdl : (x.vars []).length ≤ 100 := by rw [TypeX.vars_names]; have := uniF_len x.names []; have := HS.out; simp at *; omega
    have hdis : distinct (x.vars []) = true := by rw [TypeX.vars_names]; exact distinct_uni _
    have hmem : ∀ u ∈ x.vars [], u.size ≤ 9223372036854775807 := fun u hu => by rw [TypeX.vars_names] at hu; have := x.tame_names HT.out u (uniF_mem hu); omega
    have hcnt : ∀ u ∈ x.vars [], 1 ≤ x.cntV u ∧ x.cntV u ≤ x.size := fun u hu => by rw [TypeX.vars_names] at hu; exact ⟨x.names_cnt u (uniF_mem hu), x.cnt_size u⟩
    have HVI := fun (w2 : World) (h : Below wb.heap.size wb w2) => implTyVarsI x (.agg #[.int .i64 x.kind_, .string x.name_, .slice A1 x.args_.length c1]) w2 HOK.out hsz ⟨_, _, rfl, HR.out.grow h⟩
    have HVS := fun (w2 : World) (h : Below wb.heap.size wb w2) => specTyVars x (.agg #[.int .i64 x.kind_, .string x.name_, .slice A1 x.args_.length c1]) w2 hsz ⟨_, _, rfl, HR.out.grow h⟩
    obtain ⟨d, hd⟩ : ∃ d, d = x.vars [] := ⟨_, rfl⟩
    rw [← hd] at hdl hdis hmem hcnt HVI HVS
    have HVI := Lib.hid HVI
    have HVS := Lib.hid HVS
    have HD := Lib.hid hdis
    have HM := Lib.hid hmem
    have HC := Lib.hid hcnt
    clear hnl hd hdis hmem hcnt
    obtain ⟨p0, p1, p2⟩ := cells3 (whole_keep HBX.out hcur)
    go_wp2_with fail
    refine (HVI.out _ hcur).mono ?_
    rintro e w10 ⟨V, rfl, hown, hb10⟩
    obtain ⟨A3, c3, q3, rfl, hS3, _, _, _⟩ := own_row hown
    have hcur := hcur.trans (hb10.mono hcur.size)
    clear p0 p1 p2 hown
    obtain ⟨p0, p1, p2⟩ := cells3 (whole_keep HBX.out hcur)
    go_wp2_with fail
    refine (HVS.out _ hcur).mono ?_
    rintro e w11 ⟨V, rfl, hown, hb11⟩
    obtain ⟨A4, c4, q4, rfl, hS4, _, _, _⟩ := own_row hown
    have hcur := hcur.trans (hb11.mono hcur.size)
    have hS3 := hS3.below hb11
    clear p0 p1 p2 hown
    go_wp2_with fail
    refine (equalStrings _ _ _ _ d _ hS3 hS4 (by omega)).mono ?_
    rintro e w12 ⟨rfl, hb12⟩
    have hcur := hcur.trans (hb12.mono hcur.size)
    have hS3 := hS3.below hb12
    clear hS4
    go_wp2_with fail
    refine (implDistinct _ _ d _ hS3 (by omega) HM.out).mono ?_
    rw [HD.out]
    rintro e w13 ⟨rfl, hb13⟩
    have hcur := hcur.trans (hb13.mono hcur.size)
    have HS3 := Lib.hid (hS3.below hb13)
    have HCU := Lib.hid hcur
    clear hS3 hcur hb10 hb11 hb12 hb13 HVI HVS HM HD
    go_wp2
    go_loopw [5] (fun i wr => ∃ k : Nat, k ≤ d.length ∧ i = .int .i64 k ∧ Below w13.heap.size w13 wr) (fun i _ => d.length - (Go.RowKit.intOf i).toNat)
    case atStart => exact ⟨0, Nat.zero_le _, rfl, Below.refl _ _⟩
    case round =>
      obtain ⟨k, hk, rfl, hbk⟩ := hrel
      have hcur := HCU.out.trans (hbk.mono HCU.out.size)
      by_cases hlt : k < d.length
      · obtain ⟨g, o, rfl, hc⟩ := (HS3.out.below hbk).at_ hlt
        obtain ⟨c0, c1'⟩ := HC.out _ (List.getElem_mem hlt)
        have hk0 : (0 : Int) ≤ (k : Int) := Int.natCast_nonneg _
        have hk1 : (k : Int) < (d.length : Int) := by omega
        obtain ⟨q, hq⟩ : ∃ q, q = x.cntV d[k] := ⟨_, rfl⟩
        have HCN := fun (w2 : World) (h : Below wb.heap.size wb w2) => implTyCountI x (.agg #[.int .i64 x.kind_, .string x.name_, .slice A1 x.args_.length c1]) w2 d[k] hsz ⟨_, _, rfl, HR.out.grow h⟩
        rw [← hq] at c0 c1' HCN
        have HCN := Lib.hid HCN
        clear hq
        obtain ⟨p0, p1, p2⟩ := cells3 (whole_keep HBX.out hcur)
        go_wp2
        have hgb := World.block_lt_of_cell? wr _ hc
        have hcur : Below wb.heap.size wb wr.drew := hcur.drew
        have hcur2 : Below wr.heap.size wr wr.drew := (Below.refl _ wr).drew
        have hd1 : decide ((q : Int) < 1) = false := by simp; omega
        have hd2 : decide ((x.size : Int) < (q : Int)) = false := by simp; omega
        go_region_held3 (fun w' => w'.cell? ⟨w1.heap.size, 0, none⟩ = some (.int .i64 x.kind_) ∧ w'.cell? ⟨w1.heap.size, 1, none⟩ = some (.string x.name_) ∧ w'.cell? ⟨w1.heap.size, 2, none⟩ = some (.slice A1 x.args_.length c1) ∧ w'.cell? ⟨g, o + k, none⟩ = some (.string d[k]))
          (first
           | go_keep
           | exact ⟨(cells3 (whole_keep HBX.out hcur)).1, (cells3 (whole_keep HBX.out hcur)).2.1, (cells3 (whole_keep HBX.out hcur)).2.2, (hcur2.cell (p := ⟨g, o + k, none⟩) hgb).trans hc⟩)
          (first
           | (go_at_call 25
              refine (HCN.out _ hcur).mono ?_
              rintro e w9 ⟨rfl, hb9⟩
              have hcur := hcur.trans (hb9.mono hcur.size)
              have hcur2 := hcur2.trans (hb9.mono hcur2.size))
           | (go_at_call 15
              refine (implTySizeI x (.agg #[.int .i64 x.kind_, .string x.name_, .slice A1 x.args_.length c1]) _ hsz ⟨_, _, rfl, HR.out.grow hcur⟩).mono ?_
              rintro e w9 ⟨rfl, hb9⟩
              have hcur := hcur.trans (hb9.mono hcur.size)
              have hcur2 := hcur2.trans (hb9.mono hcur2.size)))
        go_wp2
        go_roundw
        case rel => exact ⟨k + 1, by omega, by go_num, hbk.trans (hcur2.mono hbk.size)⟩
        case measure => simp [Go.RowKit.intOf]; omega
      · clear HC HS3
        have hvd : x.valid = true → x.size ≤ 60 ∧ x.depth ≤ 6 := fun h => by simp [TypeX.valid] at h; exact ⟨h.1, h.2.1⟩
        by_cases hv : x.valid = true
        · obtain ⟨hz6, hd6⟩ := hvd hv
          have hz6' : (x.size : Int) ≤ 60 := by omega
          have hd6' : (x.depth : Int) ≤ 6 := by omega
          clear hvd
          obtain ⟨p0, p1, p2⟩ := cells3 (whole_keep HBX.out hcur)
          go_wp2_with fail
          refine (implTyValidI x (.agg #[.int .i64 x.kind_, .string x.name_, .slice A1 x.args_.length c1]) _ HOK.out hsz ⟨_, _, rfl, HR.out.grow hcur⟩).mono ?_
          rw [hv]
          rintro e w20 ⟨rfl, hb20⟩
          have hcur := hcur.trans (hb20.mono hcur.size)
          clear p0 p1 p2
          obtain ⟨p0, p1, p2⟩ := cells3 (whole_keep HBX.out hcur)
          go_wp2_with fail
          refine (implTySizeI x (.agg #[.int .i64 x.kind_, .string x.name_, .slice A1 x.args_.length c1]) _ hsz ⟨_, _, rfl, HR.out.grow hcur⟩).mono ?_
          rintro e w21 ⟨rfl, hb21⟩
          have hcur := hcur.trans (hb21.mono hcur.size)
          clear p0 p1 p2
          obtain ⟨p0, p1, p2⟩ := cells3 (whole_keep HBX.out hcur)
          go_wp2_with fail
          refine (implTyDepthI x (.agg #[.int .i64 x.kind_, .string x.name_, .slice A1 x.args_.length c1]) _ hsz ⟨_, _, rfl, HR.out.grow hcur⟩).mono ?_
          rintro e w22 ⟨rfl, hb22⟩
          have hcur := hcur.trans (hb22.mono hcur.size)
          go_wp2
          go_ret
          refine ⟨congrArg (fun b => Ending.returned (.bool b)) ?_, HB.out.trans (hcur.mono HB.out.size)⟩
          simp
        · have hv' : x.valid = false := by simpa using hv
          clear hv hvd
          obtain ⟨p0, p1, p2⟩ := cells3 (whole_keep HBX.out hcur)
          go_wp2_with fail
          refine (implTyValidI x (.agg #[.int .i64 x.kind_, .string x.name_, .slice A1 x.args_.length c1]) _ HOK.out hsz ⟨_, _, rfl, HR.out.grow hcur⟩).mono ?_
          rw [hv']
          rintro e w20 ⟨rfl, hb20⟩
          have hcur := hcur.trans (hb20.mono hcur.size)
          go_wp2
          go_ret
          exact ⟨rfl, HB.out.trans (hcur.mono HB.out.size)⟩
  · go_enter Try.func3, Try.ntmps3
    go_wp2_with fail
    refine (bigYes A n c _ (by omega)).mono ?_
    rintro e w1 ⟨rfl, rfl⟩
    go_wp2
    go_ret
    exact ⟨rfl, Below.refl _ _⟩
end Go.Proofs.Ytenjlgcdbnddjaa

/- The program's EqualType: the walk. -/
import Derived.Test.YtngbilblddngcaaDoorZTyEqI
namespace Go.Proofs.YtngbilblddngcaaDoor
open Go.RowKit Go.Lib

set_option maxRecDepth 100000 in
set_option maxHeartbeats 8000000 in
theorem implTrees (x y : TypeX) (A B : Option Addr) (c d : Nat) (w : World) (hx : x.size ≤ 4294967296) (hA : TypeRow w (Und w.heap.size) A c x.args_) (hB : TypeRow w (Und w.heap.size) B d y.args_) :
    Calls Tryd.prog 58 #[.agg #[.int .i64 x.kind_, .string x.name_, .slice A x.args_.length c], .agg #[.int .i64 y.kind_, .string y.name_, .slice B y.args_.length d], .func (.func 59) #[] #[], .func (.func 60) #[] #[]] w
      fun e w' => e = .returned (.bool (x.same y)) ∧ Below w.heap.size w w' := by
  obtain ⟨i0, hi, hz0, hz1, hz2⟩ := info_parts infoTy
  have hea : ElemsT w (Und w.heap.size) [x] [.int .i64 x.kind_, .string x.name_, .slice A x.args_.length c] := ⟨A, c, [], rfl, hA, rfl⟩
  have heb : ElemsT w (Und w.heap.size) [y] [.int .i64 y.kind_, .string y.name_, .slice B y.args_.length d] := ⟨B, d, [], rfl, hB, rfl⟩
  have HEA := Lib.hid hea
  have HEB := Lib.hid heb
  clear hA hB hea heb
  go_enter Tryd.func58, Tryd.ntmps58
  go_upto_region 1 with (fail)
  go_cut [9, 10] from 16 to 19 (fun va vb wc => wc.ownsRow (w.heap.size + 2) 26 3 va 1 [.int .i64 x.kind_, .string x.name_, .slice A x.args_.length c] ∧ wc.ownsRow (w.heap.size + 2) 26 3 vb 1 [.int .i64 y.kind_, .string y.name_, .slice B y.args_.length d] ∧ va.ownBlock ≠ vb.ownBlock ∧ Below w.heap.size w wc ∧ w.heap.size + 2 ≤ wc.heap.size)
  case first =>
    have h0 : w.heap.size + 2 ≤ ((w.alloc (.cells #[.int .i64 x.kind_, .string x.name_, .slice A x.args_.length c] 26)).alloc (.cells #[.int .i64 y.kind_, .string y.name_, .slice B y.args_.length d] 26)).heap.size := by simp
    have t1 := @two_rowsT _ 26 _ (.int .i64 x.kind_) (.string x.name_) (.slice A x.args_.length c) (.int .i64 y.kind_) (.string y.name_) (.slice B y.args_.length d) h0
    have t2 := @two_rowsT _ 26 _ (.int .i64 y.kind_) (.string y.name_) (.slice B y.args_.length d) (.int .i64 x.kind_) (.string x.name_) (.slice A x.args_.length c) h0
    simp only [World.size_alloc] at t1 t2
    have T1 := Lib.hid t1
    have T2 := Lib.hid t2
    clear h0 t1 t2
    go_region
    all_goals go_wp2
    · go_meet
      case rel => exact ⟨T1.out.1, T1.out.2, by simp [Value.ownBlock], ((((((Below.refl _ _).alloc (Nat.le_refl _) _).alloc (by simp) _).alloc (by simp; omega) _).alloc (by simp; omega) _).drew), by simp⟩
    · go_meet
      case rel => exact ⟨T2.out.2, T2.out.1, by simp [Value.ownBlock], ((((((Below.refl _ _).alloc (Nat.le_refl _) _).alloc (by simp) _).alloc (by simp; omega) _).alloc (by simp; omega) _).drew), by simp⟩
  case rest =>
    obtain ⟨hra, hrb, hne, hbc, hsc⟩ := hcut
    have HRA := Lib.hid hra
    have HRB := Lib.hid hrb
    have HNE := Lib.hid hne
    clear hra hrb hne
    go_wp2
    go_loopg [9, 10] (TypeX.sizeL [x]) (fun gk va vb wr => ∃ (ls ms : List TypeX) (us vs : List Value), wr.ownsRow (w.heap.size + 2) 26 3 va ls.length us ∧ wr.ownsRow (w.heap.size + 2) 26 3 vb ls.length vs ∧ va.ownBlock ≠ vb.ownBlock ∧ ElemsT w (Und w.heap.size) ls us ∧ ElemsT w (Und w.heap.size) ms vs ∧ ls.length = ms.length ∧ (x = y ↔ ls = ms) ∧ TypeX.sizeL ls ≤ x.size ∧ gk = TypeX.sizeL ls ∧ Below w.heap.size w wr ∧ w.heap.size + 2 ≤ wr.heap.size)
    case atStart => exact ⟨[x], [y], _, _, HRA.out, HRB.out, HNE.out, HEA.out, HEB.out, rfl, by simp, by simp [TypeX.sizeL], rfl, hbc, hsc⟩
    case round =>
      obtain ⟨ls, ms, us, vs, howa, howb, hnb, hela, helb, hlen, hiff, hnod, rfl, hb, hbs⟩ := hrel
      rcases concat_cases ls with rfl | ⟨ls0, p, rfl⟩
      · obtain ⟨A1, c1, rfl⟩ := own_nil howa
        have hm0 : ms = [] := List.eq_nil_of_length_eq_zero hlen.symm
        have hs : x.same y = true := (TypeX.same_iff x y).2 (hiff.2 hm0.symm)
        have HS := Lib.hid hs
        clear howa howb hnb hela helb hlen hiff hnod hm0 hs
        go_wp2
        go_ret
        exact ⟨congrArg (fun b => Ending.returned (.bool b)) HS.out.symm, hb⟩
      · rcases concat_cases ms with rfl | ⟨ms0, q, rfl⟩
        · simp at hlen
        · have hl0 : ls0.length = ms0.length := by simpa using hlen
          have hll := sizeL_length ls0
          have hnl := sizeL_snoc ls0 p
          have hpn := TypeX.size_eq p
          obtain ⟨hyes, hno⟩ := pop_eqT hiff hl0
          rw [List.length_append, List.length_singleton] at howa howb
          obtain ⟨us0, Ap, cp, rfl, hea0, hlp⟩ := hela.last
          obtain ⟨vs0, Aq, cq, rfl, heb0, hlq⟩ := helb.last
          obtain ⟨ga, capa, rfl⟩ := own_some howa
          obtain ⟨gb, capb, rfl⟩ := own_some howb
          obtain ⟨howa0, hca, hcapa, hcma, hBa, hga⟩ := own_pop howa hea0.length rfl
          obtain ⟨howb0, hcb, hcapb, hcmb, hBb, hgb⟩ := own_pop howb (by rw [heb0.length, hl0]) rfl
          have ca0 : wr.cell? ⟨ga, ls0.length * 3, none⟩ = some (.int .i64 p.kind_) := hca 0 (by decide)
          have ca1 : wr.cell? ⟨ga, ls0.length * 3 + 1, none⟩ = some (.string p.name_) := hca 1 (by decide)
          have ca2 : wr.cell? ⟨ga, ls0.length * 3 + 2, none⟩ = some (.slice Ap p.args_.length cp) := hca 2 (by decide)
          have cb0 : wr.cell? ⟨gb, ls0.length * 3, none⟩ = some (.int .i64 q.kind_) := hcb 0 (by decide)
          have cb1 : wr.cell? ⟨gb, ls0.length * 3 + 1, none⟩ = some (.string q.name_) := hcb 1 (by decide)
          have cb2 : wr.cell? ⟨gb, ls0.length * 3 + 2, none⟩ = some (.slice Aq q.args_.length cq) := hcb 2 (by decide)
          have hn32 : (ls0.length : Int) + 1 ≤ 4294967296 := by omega
          have hpc := hlp.cap
          have hqc := hlq.cap
          unfold maxLen at hcma hcmb
          have HY := Lib.hid hyes
          have HNo := Lib.hid hno
          have HOA := Lib.hid howa0
          have HOB := Lib.hid howb0
          have HEA0 := Lib.hid hea0
          have HEB0 := Lib.hid heb0
          have HLP := Lib.hid hlp
          have HLQ := Lib.hid hlq
          have HLL := Lib.hid hl0
          have HNL := Lib.hid hnl
          have HPN := Lib.hid hpn
          have HNB := Lib.hid hnb
          have HND := Lib.hid hnod
          clear hyes hno howa0 howb0 hea0 heb0 hlp hlq hl0 hnl hpn hnb hnod hela helb hlen hiff howa howb hca hcb hll
          go_upto_region 4 with (fail)
          go_cut [12, 13] from 20 to 61 (fun v8 v9 wc => ∃ g8 g9 : Nat, v8 = .pointer (some ⟨g8, 0, none⟩) ∧ v9 = .pointer (some ⟨g9, 0, none⟩) ∧ wr.heap.size ≤ g8 ∧ wr.heap.size ≤ g9 ∧ Whole wc g8 26 #[.int .i64 p.kind_, .string p.name_, .slice Ap p.args_.length cp] ∧ Whole wc g9 26 #[.int .i64 q.kind_, .string q.name_, .slice Aq q.args_.length cq] ∧ Below wr.heap.size wr wc)
          case first =>
            have B1 := Lib.hid (@two_boxesT wr 26 #[.int .i64 p.kind_, .string p.name_, .slice Ap p.args_.length cp] #[.int .i64 q.kind_, .string q.name_, .slice Aq q.args_.length cq])
            have B2 := Lib.hid (@two_boxesT wr 26 #[.int .i64 q.kind_, .string q.name_, .slice Aq q.args_.length cq] #[.int .i64 p.kind_, .string p.name_, .slice Ap p.args_.length cp])
            go_region
            all_goals go_wp2
            · go_meet
              case rel => exact ⟨_, _, rfl, rfl, Nat.le_refl _, by omega, B1.out.1, B1.out.2, (((Below.refl _ _).alloc (Nat.le_refl _) _).alloc (by simp) _).drew⟩
            · go_meet
              case rel => exact ⟨_, _, rfl, rfl, by omega, Nat.le_refl _, B2.out.2, B2.out.1, (((Below.refl _ _).alloc (Nat.le_refl _) _).alloc (by simp) _).drew⟩
          case rest =>
            obtain ⟨g8, g9, rfl, rfl, hg8, hg9, hw8, hw9, hbc2⟩ := hcut
            have hb2 := hb.trans (hbc2.mono hb.size)
            obtain ⟨x0, x1, x2⟩ := cells3 hw8
            obtain ⟨y0, y1, y2⟩ := cells3 hw9
            have cE : ∀ (k : Int) (s : ByteArray) (A : Option Addr) (n c : Nat) dr os, Calls Tryd.prog 60 #[.agg #[.int .i64 k, .string s, .slice A n c]] (Go.Sort.grow (redrawn wc dr) os) fun e w'' => e = .returned (.slice A n c) ∧ ∃ p : Regrown, w'' = Go.Sort.grow (redrawn wc p.d) p.os :=
              fun k s A n c dr os => Calls.regrown_of (implArgs k s A n c _)
            have kx0 := cell_regrown x0
            have kx1 := cell_regrown x1
            have kx2 := cell_regrown x2
            have ky0 := cell_regrown y0
            have ky1 := cell_regrown y1
            have ky2 := cell_regrown y2
            clear ca0 ca1 ca2 cb0 cb1 cb2
            go_wp2
            refine wp_region_quiet_below (by kernel_rfl) (by kernel_rfl) ?_
            repeat (quiet_step (exact cE _ _ _ _ _ _ _))
            refine wpQuiet_nil ?_
            intro _ hw'
            obtain ⟨⟨dq, osq⟩, hw''⟩ := hw'
            subst hw''
            have hbd : Below wc.heap.size wc (Go.Sort.grow (redrawn wc dq) osq) := below_regrown wc dq osq
            obtain ⟨wd, hwd⟩ : ∃ wd, wd = Go.Sort.grow (redrawn wc dq) osq := ⟨_, rfl⟩
            rw [← hwd] at hbd ⊢
            clear hwd cE kx0 kx1 kx2 ky0 ky1 ky2 x0 x1 x2 y0 y1 y2
            have hbd2 := hb2.trans (hbd.mono hb2.size)
            have hbcd := hbc2.trans (hbd.mono hbc2.size)
            obtain ⟨x0, x1, x2⟩ := cells3 (whole_keep hw8 hbd)
            obtain ⟨y0, y1, y2⟩ := cells3 (whole_keep hw9 hbd)
            clear hw8 hw9 hg8 hg9
            go_wp2_with fail
            refine (implRoot _ _ _ _ _ _ _ _ _ _ _).mono ?_
            rintro e we ⟨rfl, hbe⟩
            have hbe2 := hbd2.trans (hbe.mono hbd2.size)
            have hbce := hbcd.trans (hbe.mono hbcd.size)
            clear x0 x1 x2 y0 y1 y2
            by_cases hat : p.kind_ = q.kind_ ∧ p.name_ = q.name_
            · have hroot : ((p.kind_ == q.kind_) && decide (p.name_ = q.name_)) = true := by rw [hat.1, hat.2]; simp
              rw [hroot]
              by_cases hpl : p.args_.length = q.args_.length
              · have hiff2 := HY.out hat.1 hat.2 hpl
                have q2 : ((p.args_.length : Int) == p.args_.length) = true := by simp
                rw [← hpl]
                have HI := Lib.hid hiff2
                have HPL := Lib.hid hpl
                have hle2 := HND.out
                rw [HNL.out, HPN.out] at hle2
                have hpll := sizeL_length p.args_
                have hlls := sizeL_length ls0
                have hn33 : ls0.length + p.args_.length ≤ 4294967296 := by omega
                obtain ⟨news1, hel1, hnl1, hone1, hA1⟩ := HLP.out.cells
                have HH1 := Lib.hid (cells_inT hbe2 hA1)
                have HE1 := Lib.hid hel1
                have HN1 := Lib.hid hnl1
                have HO1 := Lib.hid hone1
                have HOA2 := Lib.hid (owns_below HOA.out hbce)
                have HOB2 := Lib.hid (owns_below HOB.out hbce)
                have hbsc : w.heap.size + 2 ≤ we.heap.size := Nat.le_trans hbs hbce.size
                have sl0 : (0 : Int) ≤ ls0.length := by omega
                have sla : (ls0.length : Int) ≤ capa := by omega
                have slb : (ls0.length : Int) ≤ capb := by omega
                clear hiff2 hpl hat hle2 hpll hlls hel1 hnl1 hone1 hA1 hroot
                go_wp2_with (at_builtin; refine wpList_append_any rfl (.tmp 54) (.tmp 55) 24 rfl (w.heap.size + 2) 26 i0 (.agg #[.int .i64 0, .string ByteArray.empty, .slice none 0 0]) 3 48 Tryd.underlying24 hi hz0 hz1 hz2 rfl (by decide) (.slice (some ⟨ga, 0, none⟩) ls0.length capa) ls0.length us0 rfl HOA2.out Ap p.args_.length cp news1 rfl HN1.out HH1.out HO1.out (by unfold maxLen; omega) (by omega) hbsc we.heap.size rfl ?_)
                intro va2 w2 hown2 hgrow2 hat2
                have hgrow2' : we.grownBy w2 (some ga) := ⟨hgrow2.os, hgrow2.tape, hgrow2.output, hgrow2.size, hgrow2.block⟩
                have hga2 : ga < we.heap.size := Nat.lt_of_lt_of_le hga hbce.size
                have hnab : ga ≠ gb := fun e => HNB.out (by simp [Value.ownBlock, e])
                have hob3 := HOB2.out.kept hgrow2' (.inr (by simp [Value.ownBlock]; omega))
                have hb3 : Below w.heap.size w w2 := hbe2.grown hgrow2' hbe2.size (fun k hk => by injection hk with hk; omega)
                have hbs3 : w.heap.size + 2 ≤ w2.heap.size := Nat.le_trans hbsc hgrow2'.size
                obtain ⟨news2, hel2, hnl2, hone2, hA2⟩ := HLQ.out.cells
                have HH2 := Lib.hid (cells_inT hb3 hA2)
                rw [← HPL.out] at hnl2 HH2
                have HE2 := Lib.hid hel2
                have HN2 := Lib.hid hnl2
                have HO2 := Lib.hid hone2
                have HOB3 := Lib.hid hob3
                have HOA3 := Lib.hid hown2
                have HAT2 := Lib.hid hat2
                clear hob3 hown2 hel2 hnl2 hone2 hA2 hgrow2 hat2
                go_wp2_with (at_builtin; refine wpList_append_any rfl (.tmp 59) (.tmp 60) 24 rfl (w.heap.size + 2) 26 i0 (.agg #[.int .i64 0, .string ByteArray.empty, .slice none 0 0]) 3 48 Tryd.underlying24 hi hz0 hz1 hz2 rfl (by decide) (.slice (some ⟨gb, 0, none⟩) ls0.length capb) ls0.length vs0 rfl HOB3.out Aq p.args_.length cq news2 rfl HN2.out HH2.out HO2.out (by unfold maxLen; omega) (by omega) hbs3 w2.heap.size rfl ?_)
                intro vb2 w3 hown3 hgrow3 hat3
                have hgrow3' : w2.grownBy w3 (some gb) := ⟨hgrow3.os, hgrow3.tape, hgrow3.output, hgrow3.size, hgrow3.block⟩
                have hva : va2.ownBlock = some ga ∨ va2.ownBlock = some we.heap.size := HAT2.out
                have hvb : vb2.ownBlock = some gb ∨ vb2.ownBlock = some w2.heap.size := hat3
                have hval := HOA3.out.lt
                have hgb2 : gb < we.heap.size := Nat.lt_of_lt_of_le hgb hbce.size
                have hszw := hgrow2'.size
                have hownA := HOA3.out.kept hgrow3' (.inr (by
                  rcases hva with h | h <;> rw [h] <;> simp <;> omega))
                have hnev : va2.ownBlock ≠ vb2.ownBlock := by
                  intro e
                  rcases hva with h | h <;> rcases hvb with h' | h' <;> rw [h, h'] at e <;> simp at e
                  · omega
                  · omega
                  · omega
                  · have := (hval _ h).2; omega
                have hb4 : Below w.heap.size w w3 := hb3.grown hgrow3' hb3.size (fun k hk => by injection hk with hk; omega)
                have hbs4 : w.heap.size + 2 ≤ w3.heap.size := Nat.le_trans hbs3 hgrow3'.size
                have hla : (ls0 ++ p.args_).length = ls0.length + p.args_.length := List.length_append
                rw [← hla] at hownA
                rw [← hla] at hown3
                have hlab : (ls0 ++ p.args_).length = (ms0 ++ q.args_).length := by rw [List.length_append, List.length_append, HPL.out, HLL.out]
                have heA := HEA0.out.append HE1.out
                have heB := HEB0.out.append HE2.out
                have hnd2 : TypeX.sizeL (ls0 ++ p.args_) ≤ x.size := by rw [sizeL_append]; have := HND.out; have := HNL.out; have := HPN.out; omega
                have hnd3 : TypeX.sizeL (ls0 ++ p.args_) < TypeX.sizeL (ls0 ++ [p]) := by rw [sizeL_append]; have := HNL.out; have := HPN.out; omega
                have FA := Lib.hid hownA
                have FB := Lib.hid hown3
                have FN := Lib.hid hnev
                have F1 := Lib.hid heA
                have F2 := Lib.hid heB
                have F3 := Lib.hid hlab
                have F4 := Lib.hid hnd2
                have F5 := Lib.hid hnd3
                clear hownA hown3 hnev heA heB hlab hnd2 hnd3 hla hval hva hvb hat3 hgrow3
                go_wp2
                go_roundg (TypeX.sizeL (ls0 ++ p.args_))
                case measure => exact F5.out
                case rel => exact ⟨_, _, _, _, FA.out, FB.out, FN.out, F1.out, F2.out, F3.out, HI.out, F4.out, rfl, hb4, hbs4⟩
              · have hns := HNo.out (.inr (.inr hpl))
                have hsf : x.same y = false := by rw [← Bool.not_eq_true, TypeX.same_iff]; exact hns
                have q2 : ((p.args_.length : Int) == q.args_.length) = false := by rw [beq_eq_false_iff_ne]; omega
                have HS := Lib.hid hsf
                clear hns hsf hat hcma hcmb hcapa hcapb hn32 hroot
                go_wp2
                go_ret
                exact ⟨congrArg (fun b => Ending.returned (.bool b)) HS.out.symm, hbe2⟩
            · have hroot : ((p.kind_ == q.kind_) && decide (p.name_ = q.name_)) = false := by
                rw [Bool.and_eq_false_iff, beq_eq_false_iff_ne, decide_eq_false_iff_not]
                by_cases h : p.kind_ = q.kind_
                · exact .inr fun h' => hat ⟨h, h'⟩
                · exact .inl h
              have hns := HNo.out (by
                by_cases h : p.kind_ = q.kind_
                · exact .inr (.inl fun h' => hat ⟨h, h'⟩)
                · exact .inl h)
              have hsf : x.same y = false := by rw [← Bool.not_eq_true, TypeX.same_iff]; exact hns
              have HS := Lib.hid hsf
              rw [hroot]
              clear hns hsf hat hcma hcmb hcapa hcapb hn32 hroot
              go_wp2
              go_ret
              exact ⟨congrArg (fun b => Ending.returned (.bool b)) HS.out.symm, hbe2⟩

set_option maxRecDepth 100000 in
set_option maxHeartbeats 2000000 in
theorem implEqTy (x y : TypeX) (v v' : Value) (w : World) (hx : x.size ≤ 4294967296) (hv : TypeAt w (Und w.heap.size) x v) (hv' : TypeAt w (Und w.heap.size) y v') :
    Calls Tryd.prog 42 #[v, v'] w fun e w' => e = .returned (.bool (x.same y)) ∧ Below w.heap.size w w' := by
  obtain ⟨A, c, rfl, hA⟩ := hv
  obtain ⟨B, d, rfl, hB⟩ := hv'
  have hb0 : Below w.heap.size w ((w.alloc (.cells #[.int .i64 x.kind_, .string x.name_, .slice A x.args_.length c] 26)).alloc (.cells #[.int .i64 y.kind_, .string y.name_, .slice B y.args_.length d] 26)) := ((Below.refl _ _).alloc (Nat.le_refl _) _).alloc (by simp) _
  have HA := Lib.hid (hA.grow hb0)
  have HB := Lib.hid (hB.grow hb0)
  clear hA hB
  go_enter Tryd.func42, Tryd.ntmps42
  go_wp2_with fail
  refine (implTrees x y _ _ _ _ _ hx HA.out HB.out).mono ?_
  rintro e w1 ⟨rfl, hb1⟩
  have hb2 := hb0.trans (hb1.mono hb0.size)
  go_wp2
  go_ret
  exact ⟨rfl, hb2⟩
end Go.Proofs.YtngbilblddngcaaDoor

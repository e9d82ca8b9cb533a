/- The law on Match over drawn patterns and types. -/
import Derived.Test.YtkiofeiinecpiaaZDrawMat
import Derived.Test.YtkiofeiinecpiaaZSpMatchM
import Derived.Test.YtkiofeiinecpiaaZSpEqB
import Derived.Test.YtkiofeiinecpiaaZLawM
import Derived.Test.YtkiofeiinecpiaaZTyVarsI
import Derived.Test.YtkiofeiinecpiaaZTyEqJ
import Derived.Test.YtkiofeiinecpiaaZApplyI
import Derived.Test.YtkiofeiinecpiaaZLawK2
import Derived.Test.YtkiofeiinecpiaaQ2
import Derived.Deep.RegionHeld3
import Derived.BigQuiet
namespace Go.Proofs.Ytkiofeiinecpiaa
open Go.RowKit Go.Lib

theorem sameBs_refl : ∀ l : List BindingX, sameBs l l = true
  | [] => by simp [sameBs]
  | b :: r => by
    rw [sameBs, sameBs_refl r]
    simp [BindingX.same, (TypeX.same_iff b.type_ b.type_).2 rfl]
theorem eqBs_refl (l : List BindingX) : eqBs l l = true := by rw [eqBs, sameBs_refl]; simp
/-- What a match of drawn types gives the law. -/
theorem match_facts {p t : TypeX} {l : List BindingX} (hps : p.size ≤ 100) (hpl : p.leafy) (hts : t.size ≤ 10000) (h : p.mat t [] = some l) : p.sub (subX l) = t ∧ l.length = (p.vars []).length ∧ SmallX l ∧ l.length ≤ 100 := by
  have hs := TypeX.mat_small (M := 10000) p t [] l (fun b hb => by cases hb) hts h
  refine ⟨mat_sub0 h, mat_vars0 hpl h, fun s y hy => ?_, by have := hs.2; simp at this; omega⟩
  have : ∃ b ∈ l, b.type_ = y := by
    clear hs h
    induction l with
    | nil => simp [lookX] at hy
    | cons b r ih =>
      rw [lookX] at hy
      by_cases hb : (b.var_.data.toList == s.data.toList) = true
      · rw [if_pos hb] at hy; injection hy with hy; exact ⟨b, List.mem_cons_self, hy⟩
      · rw [if_neg hb] at hy
        obtain ⟨b', h1, h2⟩ := ih hy
        exact ⟨b', List.mem_cons_of_mem _ h1, h2⟩
  obtain ⟨b, hb, rfl⟩ := this
  have := hs.1 b hb
  omega

set_option maxRecDepth 100000 in
set_option maxHeartbeats 8000000 in
theorem lawFnM (A0 : Option Addr) (n c0 : Nat) (w : World) (hA : BytesAt w w.heap.size A0 n) (hn : n ≤ 9223372036854775807) :
    Calls Try.prog 3 #[.slice A0 n c0] w fun e w' => e = .returned (.bool true) ∧ Below w.heap.size w w' := by
  have HA := Lib.hid hA
  clear hA
  by_cases hbig : n ≤ 1048576
  · go_enter Try.func3, Try.ntmps3
    go_wp2_with fail
    refine (bigNo A0 n c0 _ hbig).mono ?_
    rintro e w1 ⟨rfl, rfl⟩
    go_wp2_with fail
    refine (drawMatch A0 n c0 _ HA.out (by omega)).mono ?_
    rintro e w1 ⟨p, A, a, t, C, c, rfl, hp, ht, hps, hpt, hpl, hts, htt, hb1⟩
    obtain ⟨wa, hwa⟩ : ∃ wa, wa = (w1.alloc (.cells #[.int .i64 p.kind_, .string p.name_, .slice A p.args_.length a] 26)).alloc (.cells #[.int .i64 t.kind_, .string t.name_, .slice C t.args_.length c] 26) := ⟨_, rfl⟩
    have nb : Below w1.heap.size w1 wa := by rw [hwa]; exact ((Below.refl _ _).alloc (Nat.le_refl _) _).alloc (by simp) _
    have hsa : wa.heap.size = w1.heap.size + 2 := by rw [hwa]; simp
    have hx1 : Whole wa w1.heap.size 26 #[.int .i64 p.kind_, .string p.name_, .slice A p.args_.length a] := by rw [hwa]; exact (Whole.new w1 _ _).below ((Below.refl (w1.heap.size + 1) _).alloc (by simp) _) (by omega)
    have hx2 : Whole wa (w1.heap.size + 1) 26 #[.int .i64 t.kind_, .string t.name_, .slice C t.args_.length c] := by
      have h := Whole.new (w1.alloc (.cells #[.int .i64 p.kind_, .string p.name_, .slice A p.args_.length a] 26)) 26 #[.int .i64 t.kind_, .string t.name_, .slice C t.args_.length c]
      rw [World.size_alloc] at h
      rw [hwa]; exact h
    have hpu : TypeRow w1 (Und w1.heap.size) A a p.args_ := hp.frame (fun b h => h.2) fun _ _ _ => rfl
    have htu : TypeRow w1 (Und w1.heap.size) C c t.args_ := ht.frame (fun b h => h.2) fun _ _ _ => rfl
    have HX1 := Lib.hid hx1
    have HX2 := Lib.hid hx2
    have HP := Lib.hid (hpu.grow nb)
    have HT := Lib.hid (htu.grow nb)
    have HB := Lib.hid (hb1.trans (nb.mono hb1.size))
    have HWA := Lib.hid hwa.symm
    have OKP := Lib.hid (p.tame_ok hpt (by omega))
    obtain ⟨l, hl⟩ : ∃ l, l = (p.mat t []).getD [] := ⟨_, rfl⟩
    obtain ⟨ok, hok⟩ : ∃ ok, ok = (p.mat t []).isSome := ⟨_, rfl⟩
    have hnone : ok = false → l.length = 0 := fun h => by
      rw [hl]
      cases hm : p.mat t [] with
      | none => rfl
      | some a2 => rw [hok, hm] at h; cases h
    have hsome : ok = true → p.sub (subX l) = t ∧ l.length = (p.vars []).length ∧ SmallX l ∧ l.length ≤ 100 := fun h => by
      rw [hl]
      cases hm : p.mat t [] with
      | none => rw [hok, hm] at h; cases h
      | some a2 => exact match_facts hps hpl hts hm
    have hL := BindingX.rows_length l
    have HL := Lib.hid hl
    have HOK := Lib.hid hok
    have HNONE := Lib.hid hnone
    have HSOME := Lib.hid hsome
    have HLEN := Lib.hid hL
    clear hp ht hpu htu hx1 hx2 nb hwa hb1 hpt hpl htt hl hok hnone hsome hL
    obtain ⟨p0, p1, p2⟩ := cells3 HX1.out
    obtain ⟨q0, q1, q2⟩ := cells3 HX2.out
    have pl := HX1.out.lt
    have ql := HX2.out.lt
    go_upto_region 4 with (fail)
    rw [HWA.out]
    go_wp2_with fail
    refine (implMatch p t A C a c _ (by omega) (by omega) HP.out HT.out).mono ?_
    rw [← HL.out, ← HOK.out]
    intro e w2 hm
    obtain ⟨B2, d2, bs2, rfl, -, -, hr2, -, hb2⟩ := madeBs_get HLEN.out hm
    have HR2 := Lib.hid (show BindingRow w2 (Und w2.heap.size) B2 d2 l from rd_und hr2 (Nat.le_refl _))
    have hcur : Below wa.heap.size wa w2 := hb2
    clear hm hr2 hb2 p0 p1 p2 q0 q1 q2 pl ql
    obtain ⟨p0, p1, p2⟩ := cells3 (whole_keep HX1.out hcur)
    obtain ⟨q0, q1, q2⟩ := cells3 (whole_keep HX2.out hcur)
    have pl := (whole_keep HX1.out hcur).lt
    have ql := (whole_keep HX2.out hcur).lt
    go_wp2_with fail
    refine (specMatch p t A C a c _ (by omega) (by omega) (HP.out.grow hcur) (HT.out.grow hcur)).mono ?_
    rw [← HL.out, ← HOK.out]
    intro e w3 hm
    obtain ⟨B3, d3, bs3, rfl, -, -, hr3, -, hb3⟩ := madeBs_get HLEN.out hm
    have HR3 := Lib.hid (show BindingRow w3 (Und w3.heap.size) B3 d3 l from rd_und hr3 (Nat.le_refl _))
    have HR2 := Lib.hid (HR2.out.grow hb3)
    have hcur := hcur.trans (hb3.mono hcur.size)
    clear hm hr3 hb3 p0 p1 p2 q0 q1 q2 pl ql
    obtain ⟨p0, p1, p2⟩ := cells3 (whole_keep HX1.out hcur)
    obtain ⟨q0, q1, q2⟩ := cells3 (whole_keep HX2.out hcur)
    have pl := (whole_keep HX1.out hcur).lt
    have ql := (whole_keep HX2.out hcur).lt
    have heq : (ok != ok) = false := by cases ok <;> rfl
    go_wp2_with fail
    refine (specEqBs l l B2 B3 d2 d3 _ HR2.out HR3.out).mono ?_
    rw [eqBs_refl]
    rintro e w4 ⟨rfl, hb4⟩
    have HR2 := Lib.hid (HR2.out.grow hb4)
    have hcur := hcur.trans (hb4.mono hcur.size)
    clear hb4 p0 p1 p2 q0 q1 q2 pl ql
    obtain ⟨p0, p1, p2⟩ := cells3 (whole_keep HX1.out hcur)
    obtain ⟨q0, q1, q2⟩ := cells3 (whole_keep HX2.out hcur)
    have pl := (whole_keep HX1.out hcur).lt
    have ql := (whole_keep HX2.out hcur).lt
    go_wp2_with fail
    refine (implMatches p t A C a c _ (by omega) (by omega) (HP.out.grow hcur) (HT.out.grow hcur)).mono ?_
    rw [← HOK.out]
    rintro e w5 ⟨rfl, hb5⟩
    have HR2 := Lib.hid (HR2.out.grow hb5)
    have hcur := hcur.trans (hb5.mono hcur.size)
    clear hb5 p0 p1 p2 q0 q1 q2 pl ql
    cases ok with
    | false =>
      have hl0 : l.length = 0 := HNONE.out rfl
      have hbb := HB.out.trans (hcur.mono HB.out.size)
      clear hcur
      go_wp2
      go_ret
      exact ⟨rfl, hbb⟩
    | true =>
      obtain ⟨hsub, hvars, hsml, hl100⟩ := HSOME.out rfl
      obtain ⟨d, hd⟩ : ∃ d, d = p.vars [] := ⟨_, rfl⟩
      rw [← hd] at hvars
      have HSUB := Lib.hid hsub
      have HVARS := Lib.hid hvars
      have HSML := Lib.hid hsml
      have HD := Lib.hid hd
      have hcur : Below wa.heap.size wa w5.drew := hcur.drew
      have HR2 := Lib.hid (show BindingRow w5.drew (Und w5.drew.heap.size) B2 d2 l from HR2.out.frame (fun _ h => h) fun _ _ _ => rfl)
      have hsamet : (t.same t) = true := (TypeX.same_iff t t).2 rfl
      have HSAME := Lib.hid hsamet
      clear hsub hvars hsml hd hsamet
      obtain ⟨p0, p1, p2⟩ := cells3 (whole_keep HX1.out hcur)
      obtain ⟨q0, q1, q2⟩ := cells3 (whole_keep HX2.out hcur)
      go_upto_region 10 with (fail)
      go_region_held3 (fun w' => w'.cell? ⟨w1.heap.size, 0, none⟩ = some (.int .i64 p.kind_) ∧ w'.cell? ⟨w1.heap.size, 1, none⟩ = some (.string p.name_) ∧ w'.cell? ⟨w1.heap.size, 2, none⟩ = some (.slice A p.args_.length a) ∧ w'.cell? ⟨w1.heap.size + 1, 0, none⟩ = some (.int .i64 t.kind_) ∧ w'.cell? ⟨w1.heap.size + 1, 1, none⟩ = some (.string t.name_) ∧ w'.cell? ⟨w1.heap.size + 1, 2, none⟩ = some (.slice C t.args_.length c))
        (first
         | go_keep
         | exact ⟨(cells3 (whole_keep HX1.out hcur)).1, (cells3 (whole_keep HX1.out hcur)).2.1, (cells3 (whole_keep HX1.out hcur)).2.2, (cells3 (whole_keep HX2.out hcur)).1, (cells3 (whole_keep HX2.out hcur)).2.1, (cells3 (whole_keep HX2.out hcur)).2.2⟩)
        (first
         | (go_at_call 22
            refine (implApply l B2 d2 p A a _ (by omega) HSML.out HR2.out (HP.out.grow hcur)).mono ?_
            rw [HSUB.out]
            intro e w7 hm
            obtain ⟨D7, d7, bs7, rfl, -, -, hr7, -, hb7⟩ := madeV_get hm
            have hcur := hcur.trans (hb7.mono hcur.size))
         | (go_at_call 21
            refine (implEqTy t t _ _ _ (by omega) ⟨_, _, rfl, rd_und hr7 (Nat.le_refl _)⟩ ⟨_, _, rfl, HT.out.grow hcur⟩).mono ?_
            rw [HSAME.out]
            rintro e w8 ⟨rfl, hb8⟩
            have hcur := hcur.trans (hb8.mono hcur.size))
         | (go_at_call 23
            refine (implTyVarsI p (.agg #[.int .i64 p.kind_, .string p.name_, .slice A p.args_.length a]) _ OKP.out (by omega) ⟨_, _, rfl, HP.out.grow hcur⟩).mono ?_
            rw [← HD.out]
            rintro e w10 ⟨V, rfl, hown, hb10⟩
            obtain ⟨A3, c3, q3, rfl, hS3, -, -, -⟩ := own_row hown
            have hcur := hcur.trans (hb10.mono hcur.size)))
      have hbb := HB.out.trans (hcur.mono HB.out.size)
      have hlv : ((l.length : Int) == (d.length : Int)) = true := by rw [HVARS.out]; simp
      clear hcur
      go_wp2
      go_ret
      exact ⟨by show Ending.returned (.bool ((l.length : Int) == (d.length : Int))) = _; rw [hlv], hbb⟩
  · go_enter Try.func3, Try.ntmps3
    go_wp2_with fail
    refine (bigYes A0 n c0 _ (by omega)).mono ?_
    rintro e w1 ⟨rfl, rfl⟩
    go_wp2
    go_ret
    exact ⟨rfl, Below.refl _ _⟩
end Go.Proofs.Ytkiofeiinecpiaa

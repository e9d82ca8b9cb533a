/- The law on MatchAll over drawn patterns and types. -/
import Derived.Test.YtkiofeiinecpiaaZDrawMatA
import Derived.Test.YtkiofeiinecpiaaZLawFnM
import Derived.Test.YtkiofeiinecpiaaQ2
import Derived.Test.YtkiofeiinecpiaaZApplyAllI
namespace Go.Proofs.Ytkiofeiinecpiaa
open Go.RowKit Go.Lib

theorem matchAll_facts {ps ts : List TypeX} {l : List BindingX} (hts : TypeX.sizeL ts ≤ 20000) (h : matAll ps ts = some l) : TypeX.subL (subX l) ps = ts ∧ SmallX l := by
  refine ⟨matAll_sub h, fun s y hy => ?_⟩
  rw [matAll] at h
  by_cases hl : ps.length = ts.length
  · rw [if_pos hl] at h
    have hs := TypeX.matL_small (M := 20000) ps ts [] l (fun b hb => by cases hb) hts h
    have : ∃ b ∈ l, b.type_ = y := by
      clear hs h
      induction l with
      | nil => simp [lookX] at hy
      | cons b r ih =>
        rw [lookX] at hy
        by_cases hb : (b.var_.data.toList == s.data.toList) = true
        · rw [if_pos hb] at hy; injection hy with hy; exact ⟨b, List.mem_cons_self, hy⟩
        · rw [if_neg hb] at hy
          obtain ⟨b', h1, h2⟩ := ih hy
          exact ⟨b', List.mem_cons_of_mem _ h1, h2⟩
    obtain ⟨b, hb, rfl⟩ := this
    have := hs.1 b hb
    omega
  · rw [if_neg hl] at h; cases h

set_option maxRecDepth 100000 in
set_option maxHeartbeats 4000000 in
theorem lawFnMA (A0 : Option Addr) (n c0 : Nat) (w : World) (hA : BytesAt w w.heap.size A0 n) (hn : n ≤ 9223372036854775807) :
    Calls Try.prog 4 #[.slice A0 n c0] w fun e w' => e = .returned (.bool true) ∧ Below w.heap.size w w' := by
  have HA := Lib.hid hA
  clear hA
  by_cases hbig : n ≤ 1048576
  · go_enter Try.func4, Try.ntmps4
    go_wp2_with fail
    refine (bigNo A0 n c0 _ hbig).mono ?_
    rintro e w1 ⟨rfl, rfl⟩
    go_wp2_with fail
    refine (drawMatchAll A0 n c0 _ HA.out (by omega)).mono ?_
    rintro e w1 ⟨ps, A, a, ts, C, c, rfl, hp, ht, hps, hts, hb1⟩
    obtain ⟨l, hl⟩ : ∃ l, l = (matAll ps ts).getD [] := ⟨_, rfl⟩
    obtain ⟨ok, hok⟩ : ∃ ok, ok = (matAll ps ts).isSome := ⟨_, rfl⟩
    have hsome : ok = true → TypeX.subL (subX l) ps = ts ∧ SmallX l := fun h => by
      rw [hl]
      cases hm : matAll ps ts with
      | none => rw [hok, hm] at h; cases h
      | some a2 => exact matchAll_facts hts hm
    have hL := BindingX.rows_length l
    have HL := Lib.hid hl
    have HOK := Lib.hid hok
    have HSOME := Lib.hid hsome
    have HLEN := Lib.hid hL
    have HP := Lib.hid hp
    have HT := Lib.hid ht
    have HB := Lib.hid hb1
    clear hp ht hb1 hl hok hsome hL
    go_wp2_with fail
    refine (implMatchAll ps ts A C a c _ (by omega) (by omega) HP.out HT.out).mono ?_
    rw [← HL.out, ← HOK.out]
    intro e w2 hm
    obtain ⟨B2, d2, bs2, rfl, -, -, hr2, -, hb2⟩ := madeBs_get HLEN.out hm
    have HR2 := Lib.hid (show BindingRow w2 (Und w2.heap.size) B2 d2 l from rd_und hr2 (Nat.le_refl _))
    have HP := Lib.hid (HP.out.grow hb2)
    have HT := Lib.hid (HT.out.grow hb2)
    have HB := Lib.hid (HB.out.trans (hb2.mono HB.out.size))
    clear hm hr2 hb2
    go_wp2_with fail
    refine (specMatchAll ps ts A C a c _ (by omega) (by omega) HP.out HT.out).mono ?_
    rw [← HL.out, ← HOK.out]
    intro e w3 hm
    obtain ⟨B3, d3, bs3, rfl, -, -, hr3, -, hb3⟩ := madeBs_get HLEN.out hm
    have HR3 := Lib.hid (show BindingRow w3 (Und w3.heap.size) B3 d3 l from rd_und hr3 (Nat.le_refl _))
    have HR2 := Lib.hid (HR2.out.grow hb3)
    have HP := Lib.hid (HP.out.grow hb3)
    have HT := Lib.hid (HT.out.grow hb3)
    have HB := Lib.hid (HB.out.trans (hb3.mono HB.out.size))
    clear hm hr3 hb3
    have heq : (ok != ok) = false := by cases ok <;> rfl
    go_wp2_with fail
    refine (specEqBs l l B2 B3 d2 d3 _ HR2.out HR3.out).mono ?_
    rw [eqBs_refl]
    rintro e w4 ⟨rfl, hb4⟩
    have HR2 := Lib.hid (HR2.out.grow hb4)
    have HP := Lib.hid (HP.out.grow hb4)
    have HT := Lib.hid (HT.out.grow hb4)
    have HB := Lib.hid (HB.out.trans (hb4.mono HB.out.size))
    clear hb4
    cases ok with
    | false =>
      go_wp2
      go_ret
      exact ⟨rfl, HB.out⟩
    | true =>
      obtain ⟨hsub, hsml⟩ := HSOME.out rfl
      have HSUB := Lib.hid hsub
      have HSML := Lib.hid hsml
      have hTL := TypeX.rows_length ts
      have HTL := Lib.hid hTL
      clear hsub hsml hTL
      go_wp2_with fail
      refine (implApplyAll l B2 d2 ps A a _ (by omega) HSML.out HR2.out HP.out).mono ?_
      rw [HSUB.out]
      intro e w5 hm
      obtain ⟨B5, d5, bs5, rfl, -, -, hr5, -, hb5⟩ := madeR_get HTL.out hm
      have HR5 := Lib.hid (show TypeRow w5 (Und w5.heap.size) B5 d5 ts from rd_und hr5 (Nat.le_refl _))
      have HT := Lib.hid (HT.out.grow hb5)
      have HB := Lib.hid (HB.out.trans (hb5.mono HB.out.size))
      clear hm hr5 hb5
      go_wp2_with fail
      refine (equalTys ts B5 C d5 c _ (by omega) HR5.out HT.out).mono ?_
      rintro e w6 ⟨rfl, hb6⟩
      have hbb := HB.out.trans (hb6.mono HB.out.size)
      clear hb6
      go_wp2
      go_ret
      exact ⟨rfl, hbb⟩
  · go_enter Try.func4, Try.ntmps4
    go_wp2_with fail
    refine (bigYes A0 n c0 _ (by omega)).mono ?_
    rintro e w1 ⟨rfl, rfl⟩
    go_wp2
    go_ret
    exact ⟨rfl, Below.refl _ _⟩
end Go.Proofs.Ytkiofeiinecpiaa

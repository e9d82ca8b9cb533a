/- The reference model's matching. -/
import Derived.Test.YtkiofeiinecpiaaQ2
import Derived.Test.YtkiofeiinecpiaaZSpLook
import Derived.Test.YtkiofeiinecpiaaZSpCopy
import Derived.Test.YtkiofeiinecpiaaQ1
import Derived.Test.YtkiofeiinecpiaaZLawK2
import Derived.Deep.RegionHeld3
import Derived.Deep.RegionLaw
import Derived.Deep.AppendLies
namespace Go.Proofs.Ytkiofeiinecpiaa
open Go.RowKit Go.Lib

/-- What matching leaves: the bindings, a row of the call's own, where it succeeds. -/
def MatPost (B : Nat) (o : Option (List BindingX)) (w : World) (e : Ending) (w' : World) : Prop :=
  ∃ V, e = .returned (.tuple #[V, .bool o.isSome]) ∧ (∀ a2, o = some a2 → KeptAt B a2 V w') ∧ Below B w w'
theorem KeptAt.shape {B : Nat} {acc : List BindingX} {V : Value} {w : World} (h : KeptAt B acc V w) : ∃ A c, V = .slice A acc.length c := by
  obtain ⟨vs, bs, h1, _, _⟩ := h
  exact own_nil h1
theorem KeptAt.reads {B n c : Nat} {acc : List BindingX} {A : Option Addr} {w : World} (h : KeptAt B acc (.slice A n c) w) : BindingRow w (Und w.heap.size) A c acc := by
  obtain ⟨bs, hrow, _⟩ := h.row
  have hr := OwV_read (P := Und w.heap.size) _ (fun b hb => (OwV_lt _ hrow b hb).2) hrow
  obtain ⟨A', c', e, h2⟩ := BindingRow.of_read hr
  injection e with e1 _ e3
  subst e1 e3
  exact h2
def MatT (N : Nat) : Prop := ∀ (p t : TypeX) (A C : Option Addr) (a c : Nat) (acc : List BindingX) (V : Value) (B : Nat) (w : World), p.size ≤ N → t.size ≤ 4294967296 → (∀ b ∈ acc, b.type_.size ≤ 4294967296) → acc.length + p.size ≤ 4294967296 → B ≤ w.heap.size →
  TypeRow w (Und B) A a p.args_ → TypeRow w (Und B) C c t.args_ → KeptAt B acc V w →
  Calls Try.prog 106 #[.agg #[.int .i64 p.kind_, .string p.name_, .slice A p.args_.length a], .agg #[.int .i64 t.kind_, .string t.name_, .slice C t.args_.length c], V] w (MatPost B (p.mat t acc) w)
def MatsT (N : Nat) : Prop := ∀ (ps ts : List TypeX) (A C : Option Addr) (a c : Nat) (acc : List BindingX) (V : Value) (B : Nat) (w : World), TypeX.sizeL ps ≤ N → TypeX.sizeL ts ≤ 4294967296 → (∀ b ∈ acc, b.type_.size ≤ 4294967296) → acc.length + TypeX.sizeL ps ≤ 4294967296 → ps.length = ts.length → B ≤ w.heap.size →
  TypeRow w (Und B) A a ps → TypeRow w (Und B) C c ts → KeptAt B acc V w →
  Calls Try.prog 75 #[.slice A ps.length a, .slice C ts.length c, V] w (MatPost B (TypeX.matL ps ts acc) w)

set_option maxRecDepth 100000 in
set_option maxHeartbeats 4000000 in
theorem matT_step (N : Nat) (ih : MatsT N) : MatT (N + 1) := by
  intro p t A C a c acc V B w hn ht hac hal hB hp hr hk
  obtain ⟨i0, hi, hz0, hz1, hz2⟩ := info_parts infoBd
  obtain ⟨Av, cv, rfl⟩ := hk.shape
  obtain ⟨W, hW⟩ : ∃ W, W = (w.alloc (.cells #[.int .i64 p.kind_, .string p.name_, .slice A p.args_.length a] 26)).alloc (.cells #[.int .i64 t.kind_, .string t.name_, .slice C t.args_.length c] 26) := ⟨_, rfl⟩
  have hb0 : Below w.heap.size w W := by rw [hW]; exact ((Below.refl _ _).alloc (Nat.le_refl _) _).alloc (by simp) _
  have hs : W.heap.size = w.heap.size + 2 := by rw [hW]; simp
  have hx1 : Whole W w.heap.size 26 #[.int .i64 p.kind_, .string p.name_, .slice A p.args_.length a] := by rw [hW]; exact (Whole.new w _ _).below ((Below.refl (w.heap.size + 1) _).alloc (by simp) _) (by omega)
  have hx2 : Whole W (w.heap.size + 1) 26 #[.int .i64 t.kind_, .string t.name_, .slice C t.args_.length c] := by
    have h := Whole.new (w.alloc (.cells #[.int .i64 p.kind_, .string p.name_, .slice A p.args_.length a] 26)) 26 #[.int .i64 t.kind_, .string t.name_, .slice C t.args_.length c]
    rw [World.size_alloc] at h; rw [hW]; exact h
  have hkW := hk.below hb0
  have hcl : ∀ b, b < B → W.heap[b]? = w.heap[b]? := fun b h => hb0.block b (by omega)
  have hpW : TypeRow W (Und B) A a p.args_ := hp.frame (fun _ h => h) fun b o h => World.cell?_of_block (a := ⟨b, o, none⟩) (hcl b h)
  have htW : TypeRow W (Und B) C c t.args_ := hr.frame (fun _ h => h) fun b o h => World.cell?_of_block (a := ⟨b, o, none⟩) (hcl b h)
  have hbB : Below B w W := hb0.mono hB
  have HK := Lib.hid hkW
  have HP := Lib.hid hpW
  have HT := Lib.hid htW
  have HX1 := Lib.hid hx1
  have HX2 := Lib.hid hx2
  have HB := Lib.hid hbB
  have HW := Lib.hid hW.symm
  have HAC := Lib.hid hac
  clear hk hp hr hkW hpW htW hx1 hx2 hbB hcl hW hac hb0
  by_cases hk1 : p.kind_ = 1
  · obtain ⟨y, hy⟩ : ∃ y, y = (lookX p.name_ acc).getD zeroX := ⟨_, rfl⟩
    obtain ⟨met, hmet⟩ : ∃ m, m = (lookX p.name_ acc).isSome := ⟨_, rfl⟩
    have hlk := specLookup acc Av cv p.name_ W HAC.out HK.out.reads
    rw [← hy, ← hmet] at hlk
    have HLK := Lib.hid hlk
    have HY := Lib.hid hy
    have HM := Lib.hid hmet
    clear hlk hy hmet
    have hkb : (p.kind_ == 1) = true := by rw [hk1]; rfl
    have HK1 := Lib.hid hk1
    clear hk1
    obtain ⟨p0, p1, p2⟩ := cells3 HX1.out
    have pl := HX1.out.lt
    go_enter Try.func106, Try.ntmps106
    go_upto_region 1 with (fail)
    rw [HW.out]
    go_wp2_with fail
    refine HLK.out.mono ?_
    intro e w5 hm
    obtain ⟨A5, c5, bs5, rfl, -, -, hr5, -, hb5⟩ := madeB_get hm
    have nb : Below w5.heap.size w5 (w5.alloc (.cells #[.int .i64 y.kind_, .string y.name_, .slice A5 y.args_.length c5] 26)) := (Below.refl _ _).alloc (Nat.le_refl _) _
    have hb6 := hb5.trans (nb.mono hb5.size)
    obtain ⟨w6, hw6⟩ : ∃ w6, w6 = w5.alloc (.cells #[.int .i64 y.kind_, .string y.name_, .slice A5 y.args_.length c5] 26) := ⟨_, rfl⟩
    have HX6 := Lib.hid (Whole.new w5 26 #[.int .i64 y.kind_, .string y.name_, .slice A5 y.args_.length c5])
    have HR6 := Lib.hid ((show TypeRow w5 (Und w5.heap.size) A5 c5 y.args_ from rd_und hr5 (Nat.le_refl _)).grow nb)
    rw [← hw6] at HX6 HR6 hb6
    have hs6 := hb6.size
    have HX1 := Lib.hid (HX1.out.below hb6 HX1.out.lt)
    have HX2 := Lib.hid (HX2.out.below hb6 HX2.out.lt)
    have HK := Lib.hid (HK.out.below hb6)
    have HT := Lib.hid (HT.out.frame (fun _ h => h) fun b o h => World.cell?_of_block (a := ⟨b, o, none⟩) (hb6.block b (by have : b < B := h; omega)))
    have HB := Lib.hid (HB.out.trans (hb6.mono (by omega)))
    have HW6 := Lib.hid hw6.symm
    clear hm hr5 hb5 nb hb6 hw6 HLK p0 p1 p2 pl HW
    cases met with
    | true =>
      obtain ⟨z, hz⟩ := Option.isSome_iff_exists.1 HM.out.symm
      have hyz : y = z := by rw [HY.out, hz]; rfl
      have hmat := TypeX.mat_met (t := t) HK1.out hz
      rw [← hyz] at hmat
      obtain ⟨sm, hsm⟩ : ∃ sm, sm = y.same t := ⟨_, rfl⟩
      rw [← hsm] at hmat
      have hcall := specSameTy y t (.agg #[.int .i64 y.kind_, .string y.name_, .slice A5 y.args_.length c5]) (.agg #[.int .i64 t.kind_, .string t.name_, .slice C t.args_.length c]) w6 ⟨_, _, rfl, HR6.out⟩ ⟨_, _, rfl, HT.out.frame (fun b h => by have : b < B := h; show b < w6.heap.size; omega) fun _ _ _ => rfl⟩
      rw [← hsm] at hcall
      have HCALL := Lib.hid hcall
      have HMAT := Lib.hid hmat
      clear hz hyz hmat hsm hcall
      obtain ⟨p0, p1, p2⟩ := cells3 HX2.out
      obtain ⟨q0, q1, q2⟩ := cells3 HX6.out
      have pl := HX2.out.lt
      have ql := HX6.out.lt
      go_upto_region 4 with (fail)
      rw [HW6.out]
      go_wp2_with fail
      refine HCALL.out.mono ?_
      rintro e w7 ⟨rfl, hb7⟩
      have hk7 := HK.out.below hb7
      have hbb := HB.out.trans (hb7.mono (by omega))
      have HK7 := Lib.hid hk7
      clear hk7 hb7
      go_wp2
      go_ret2
      rw [HMAT.out]
      cases sm with
      | true => exact ⟨_, rfl, fun a2 h => by injection h with h; subst h; exact HK7.out, hbb⟩
      | false => exact ⟨_, rfl, fun a2 h => (by cases h), hbb⟩
    | false =>
      have hln : lookX p.name_ acc = none := by
        cases h : lookX p.name_ acc with
        | none => rfl
        | some z => have := HM.out; rw [h] at this; cases this
      have hmat := TypeX.mat_new (t := t) HK1.out hln
      have HMAT := Lib.hid hmat
      clear hln hmat
      have hcall := specCopy t C c w6.drew ht (HT.out.frame (fun b h => by have : b < B := h; show b < w6.drew.heap.size; rw [World.size_drew]; omega) fun _ _ _ => rfl)
      have HC := Lib.hid hcall
      obtain ⟨vs, bs', hown, hE, hnd⟩ := HK.out
      have HO := Lib.hid hown
      have HE := Lib.hid hE
      have HND := Lib.hid hnd
      have hal2 : acc.length ≤ 4294967296 := by omega
      clear hcall hown hE hnd
      obtain ⟨p0, p1, p2⟩ := cells3 HX1.out
      obtain ⟨q0, q1, q2⟩ := cells3 HX2.out
      have pl := HX1.out.lt
      have ql := HX2.out.lt
      go_upto_region 5 with (fail)
      rw [HW6.out]
      go_region_law (first
        | (refine step_append_lies _ (by rfl) _ _ _ (by rfl) B 77 i0 _ 4 64 Try.underlying29 hi hz0 hz1 hz2 rfl (by omega) (.slice Av acc.length cv) acc.length vs (by rfl) (hown7.alloc _)
             ⟨w7.heap.size, 0, none⟩ 1 1 [.string p.name_, .int .i64 t.kind_, .string t.name_, .slice A7 t.args_.length c7] (by rfl) (by rfl) (news4 w7 _ _ _ _ _) (one4 _ _ _ _ _ _) (by omega) (by unfold maxLen; omega) (by omega) (by simp; omega) (w7.heap.size + 1) (by simp) ?_
           intro g' cap' w8 hown8 hgrow8 hat8 hlt8)
        | (go_simp
           go_at_call 89
           refine HC.out.mono ?_
           intro e w7 hm
           obtain ⟨vs7, bs7, A7, c7, rfl, rfl, hO7, hn7, hb7⟩ := madeT_get hm
           have hb7' := (Below.refl _ w6).drew.trans hb7
           have hown7 := owns_below HO.out hb7'
           have hs7 := hb7'.size
           have x7 : w7.cell? ⟨w.heap.size, 1, none⟩ = some (.string p.name_) := by rw [(HX1.out.below hb7' pl).cell]; rfl
           clear hm hb7))
      all_goals (
        have hat9 : (Value.slice (some ⟨g', 0, none⟩) (acc.length + 1) cap').ownBlock = (Value.slice Av acc.length cv).ownBlock ∨ (Value.slice (some ⟨g', 0, none⟩) (acc.length + 1) cap').ownBlock = some (w7.heap.size + 1) := by
          rcases hat8 with h | h
          · exact .inl h.symm
          · exact .inr (by rw [← h]; rfl)
        have hpush := KeptAt.push (x := .mk p.name_ t) HO.out HE.out HND.out hb7' hO7 hn7 (by show B ≤ w6.heap.size; omega) hown8 hgrow8 hat9
        have hb7B : Below B w w7 := HB.out.trans (hb7'.mono (by show B ≤ w6.heap.size; omega))
        have HPU := Lib.hid hpush
        have HB8 := Lib.hid ((hb7B.alloc (by omega) (.cells #[.string p.name_, .int .i64 t.kind_, .string t.name_, .slice A7 t.args_.length c7] 77)).grown hgrow8 (by simp; omega) (fun j e => (hown7.lt j e).1))
        clear hpush hb7B hown8 hgrow8 hat8 hat9 hown7 hO7 hn7
        go_wp2
        go_ret2
        rw [HMAT.out]
        exact ⟨_, rfl, fun a2 h => by injection h with h; subst h; exact HPU.out, HB8.out⟩)
  · have hkb : (p.kind_ == 1) = false := by simpa using hk1
    have HK1 := Lib.hid hk1
    clear hk1
    obtain ⟨p0, p1, p2⟩ := cells3 HX1.out
    obtain ⟨q0, q1, q2⟩ := cells3 HX2.out
    have pl := HX1.out.lt
    have ql := HX2.out.lt
    by_cases c1 : p.kind_ = t.kind_
    · by_cases c2 : p.name_ = t.name_
      · by_cases c3 : p.args_.length = t.args_.length
        · have hmat := TypeX.mat_args (acc := acc) HK1.out ⟨c1, c2, c3⟩
          have hcall := ih p.args_ t.args_ A C a c acc (.slice Av acc.length cv) B W (by rw [TypeX.size_eq] at hn; omega) (by rw [TypeX.size_eq] at ht; omega) HAC.out (by rw [TypeX.size_eq] at hal; omega) c3 (by omega) HP.out HT.out HK.out
          rw [← c1] at q0
          rw [← c2] at q1
          rw [← c3] at q2 hcall
          have HMAT := Lib.hid hmat
          have HCALL := Lib.hid hcall
          clear hmat hcall c1 c2 c3
          go_enter Try.func106, Try.ntmps106
          go_upto_region 1 with (fail)
          rw [HW.out]
          go_wp2_with fail
          refine HCALL.out.mono ?_
          rintro e w7 ⟨V, rfl, hk7, hb7⟩
          have HK7 := Lib.hid hk7
          clear hk7
          go_wp2
          go_ret2
          rw [HMAT.out]
          exact ⟨V, rfl, HK7.out, HB.out.trans hb7⟩
        · have hne : ((p.args_.length : Int) == (t.args_.length : Int)) = false := by rw [beq_eq_false_iff_ne]; omega
          rw [← c1] at q0
          rw [← c2] at q1
          have hmat := TypeX.mat_no (acc := acc) HK1.out (fun h => c3 h.2.2)
          have HMAT := Lib.hid hmat
          clear hmat c1 c2 c3
          go_enter Try.func106, Try.ntmps106
          go_upto_region 1 with (fail)
          rw [HW.out]
          go_wp2
          go_ret2
          rw [HMAT.out]
          exact ⟨_, rfl, fun a2 h => (by cases h), HB.out⟩
      · have hne := text_ne c2
        rw [← c1] at q0
        have hmat := TypeX.mat_no (acc := acc) HK1.out (fun h => c2 h.2.1)
        have HMAT := Lib.hid hmat
        clear hmat c1 c2
        go_enter Try.func106, Try.ntmps106
        go_upto_region 1 with (fail)
        rw [HW.out]
        go_wp2
        go_ret2
        rw [HMAT.out]
        exact ⟨_, rfl, fun a2 h => (by cases h), HB.out⟩
    · have hne : (p.kind_ == t.kind_) = false := by simpa using c1
      have hmat := TypeX.mat_no (acc := acc) HK1.out (fun h => c1 h.1)
      have HMAT := Lib.hid hmat
      clear hmat
      go_enter Try.func106, Try.ntmps106
      go_upto_region 1 with (fail)
      rw [HW.out]
      go_wp2
      go_ret2
      rw [HMAT.out]
      exact ⟨_, rfl, fun a2 h => (by cases h), HB.out⟩

theorem sizeL_takes : ∀ (l : List TypeX) (k : Nat), TypeX.sizeL (l.take k) ≤ TypeX.sizeL l
  | [], k => by rw [List.take_nil]; exact Nat.le_refl _
  | x :: r, 0 => by rw [List.take_zero, TypeX.sizeL]; exact Nat.zero_le _
  | x :: r, k + 1 => by have := sizeL_takes r k; rw [List.take_succ_cons, TypeX.sizeL, TypeX.sizeL]; omega
theorem sizeL_step : ∀ (l : List TypeX) (k : Nat) (h : k < l.length), TypeX.sizeL (l.take (k + 1)) = TypeX.sizeL (l.take k) + l[k].size
  | x :: r, 0, _ => by simp [TypeX.sizeL]
  | x :: r, k + 1, h => by
    have := sizeL_step r k (by simpa using h)
    rw [List.take_succ_cons, List.take_succ_cons, TypeX.sizeL, TypeX.sizeL, this, List.getElem_cons_succ]; omega

set_option maxRecDepth 100000 in
set_option maxHeartbeats 4000000 in
theorem matsT_step (N : Nat) (ih : MatT N) : MatsT N := by
  intro ps ts A C a c acc V B w hn ht hac hal hlen hB hp hr hk
  have HP := Lib.hid hp
  have HT := Lib.hid hr
  have HK := Lib.hid hk
  have HAC := Lib.hid hac
  have HLEN := Lib.hid hlen
  have hpl := sizeL_length ps
  have htl := sizeL_length ts
  clear hp hr hk hac hlen
  go_enter Try.func75, Try.ntmps75
  go_wp2
  go_loopw [2, 8] (fun lv iv wr => ∃ (k : Nat) (ak : List BindingX), k ≤ ps.length ∧ iv = .int .i64 k ∧ TypeX.matL (ps.take k) (ts.take k) acc = some ak ∧ KeptAt B ak lv wr ∧ Below B w wr) (fun _ iv _ => ps.length - (Go.RowKit.intOf iv).toNat)
  case atStart => exact ⟨0, acc, Nat.zero_le _, rfl, by rw [List.take_zero, List.take_zero, TypeX.matL], HK.out, Below.refl _ _⟩
  case round =>
    obtain ⟨k, ak, hkl, rfl, hm, hka, hb⟩ := hrel
    obtain ⟨Av, cv, rfl⟩ := hka.shape
    have hbs := hb.size
    by_cases hlt : k < ps.length
    · have hlt2 : k < ts.length := by have := HLEN.out; omega
      obtain ⟨b, o, A3, c3, rfl, hPb, p0, p1, p2, h3⟩ := (HP.out.frame (w' := wr) (fun _ h => h) fun b o h => hb.cell (p := ⟨b, o, none⟩) h).at_ hlt
      obtain ⟨b2, o2, C3, d3, rfl, hPb2, q0, q1, q2, h4⟩ := (HT.out.frame (w' := wr) (fun _ h => h) fun b o h => hb.cell (p := ⟨b, o, none⟩) h).at_ hlt2
      have hsm := TypeX.matL_small (M := 4294967296) (ps.take k) (ts.take k) acc ak HAC.out (by have := sizeL_takes ts k; omega) hm
      have hst := sizeL_step ps k hlt
      have hsk := sizeL_takes ps (k + 1)
      have hpk := TypeX.sizeL_at ps k hlt
      have htk := TypeX.sizeL_at ts k hlt2
      obtain ⟨oo, hoo⟩ : ∃ oo, oo = ps[k].mat ts[k] ak := ⟨_, rfl⟩
      have hcall := ih ps[k] ts[k] A3 C3 c3 d3 ak (.slice Av ak.length cv) B wr.drew (by omega) (by omega) hsm.1 (by omega) (by show B ≤ wr.heap.size; omega) (h3.frame (fun _ h => h) fun _ _ _ => rfl) (h4.frame (fun _ h => h) fun _ _ _ => rfl) (hka.below (Below.refl _ wr).drew)
      rw [← hoo] at hcall
      have hstep := TypeX.matL_step ps ts acc k hlt hlt2
      rw [hm, Option.bind_some, ← hoo] at hstep
      have HC := Lib.hid hcall
      have HST := Lib.hid hstep
      have hbB : b < B := hPb
      have hbB2 : b2 < B := hPb2
      have HSC : Hid (∀ w2 : World, Below B wr.drew w2 → w2.cell? ⟨b, o + k * 3, none⟩ = some (.int .i64 ps[k].kind_) ∧ w2.cell? ⟨b, o + k * 3 + 1, none⟩ = some (.string ps[k].name_) ∧ w2.cell? ⟨b, o + k * 3 + 2, none⟩ = some (.slice A3 ps[k].args_.length c3) ∧ w2.cell? ⟨b2, o2 + k * 3, none⟩ = some (.int .i64 ts[k].kind_) ∧ w2.cell? ⟨b2, o2 + k * 3 + 1, none⟩ = some (.string ts[k].name_) ∧ w2.cell? ⟨b2, o2 + k * 3 + 2, none⟩ = some (.slice C3 ts[k].args_.length d3)) := Lib.hid fun w2 h =>
        ⟨(h.cell (p := ⟨b, _, none⟩) hbB).trans p0, (h.cell (p := ⟨b, _, none⟩) hbB).trans p1, (h.cell (p := ⟨b, _, none⟩) hbB).trans p2, (h.cell (p := ⟨b2, _, none⟩) hbB2).trans q0, (h.cell (p := ⟨b2, _, none⟩) hbB2).trans q1, (h.cell (p := ⟨b2, _, none⟩) hbB2).trans q2⟩
      have hk0 : (0 : Int) ≤ (k : Int) := Int.natCast_nonneg _
      have hk1 : (k : Int) < (ps.length : Int) := by omega
      have hk2 : (k : Int) < (ts.length : Int) := by omega
      have hcur : Below B wr.drew wr.drew := Below.refl _ _
      clear hm hka hsm hoo hcall hstep h3 h4 hPb hPb2
      go_upto_region 4 with (fail)
      go_region_held3 (fun w2 => w2.cell? ⟨b, o + k * 3, none⟩ = some (.int .i64 ps[k].kind_) ∧ w2.cell? ⟨b, o + k * 3 + 1, none⟩ = some (.string ps[k].name_) ∧ w2.cell? ⟨b, o + k * 3 + 2, none⟩ = some (.slice A3 ps[k].args_.length c3) ∧ w2.cell? ⟨b2, o2 + k * 3, none⟩ = some (.int .i64 ts[k].kind_) ∧ w2.cell? ⟨b2, o2 + k * 3 + 1, none⟩ = some (.string ts[k].name_) ∧ w2.cell? ⟨b2, o2 + k * 3 + 2, none⟩ = some (.slice C3 ts[k].args_.length d3))
        (first
         | go_keep
         | exact HSC.out _ hcur)
        (first
         | (go_at_call 106
            refine HC.out.mono ?_
            rintro e w7 ⟨V7, rfl, hk7, hb7⟩
            have hcur := hcur.trans hb7
            have HK7 := Lib.hid hk7
            clear hk7))
      have HB7 := Lib.hid (hb.trans ((Below.refl B wr).drew.trans hb7))
      cases oo with
      | none =>
        have hno := TypeX.matL_none ps ts acc (k + 1) HLEN.out HST.out
        have HNO := Lib.hid hno
        clear hno
        go_wp2
        go_ret2
        rw [HNO.out]
        exact ⟨_, rfl, fun a2 h => (by cases h), HB7.out⟩
      | some a2 =>
        go_wp2
        go_roundw
        case rel => exact ⟨k + 1, a2, by omega, by go_num, HST.out, HK7.out a2 rfl, HB7.out⟩
        case measure => simp [Go.RowKit.intOf]; omega
    · obtain rfl : k = ps.length := by omega
      rw [List.take_length, HLEN.out, List.take_length] at hm
      have HM := Lib.hid hm
      have HKA := Lib.hid hka
      clear hm hka
      go_wp2
      go_ret2
      rw [HM.out]
      exact ⟨_, rfl, fun a2 h => by injection h with h; subst h; exact HKA.out, hb⟩
theorem matTAll : ∀ N, MatT N
  | 0 => fun p t A C a c acc V B w hn => by rw [TypeX.size_eq] at hn; omega
  | N + 1 => matT_step N (matsT_step N (matTAll N))
theorem specMats (ps : List TypeX) : MatsT (TypeX.sizeL ps) := matsT_step _ (matTAll _)
end Go.Proofs.Ytkiofeiinecpiaa

/- The reference model's unification of one pair. -/
import Derived.Test.YtpffmcofajlkgaaZSpBound
import Derived.Test.YtpffmcofajlkgaaZMguG
import Derived.Test.YtpffmcofajlkgaaQ1
namespace Go.Proofs.Ytpffmcofajlkgaa
open Go.RowKit Go.Lib

mutual
theorem cnt_size (u : ByteArray) : ∀ x : TypeX, x.cntV u ≤ x.size
  | .mk k n a => by
    have := cntL_size u a
    rw [TypeX.cntV, TypeX.size]
    have h1 : TypeX.isV u k n ≤ 1 := by unfold TypeX.isV; split <;> omega
    omega
theorem cntL_size (u : ByteArray) : ∀ l : List TypeX, TypeX.cntVL u l ≤ TypeX.sizeL l
  | [] => by rw [TypeX.cntVL, TypeX.sizeL]; omega
  | x :: r => by
    have := cnt_size u x
    have := cntL_size u r
    rw [TypeX.cntVL, TypeX.sizeL]; omega
end
/-- Whether a variable occurs. -/
theorem specOccurs (u : ByteArray) (x : TypeX) (A : Option Addr) (c : Nat) (w : World) (hx : x.size ≤ 4294967296) (hv : TypeRow w (Und w.heap.size) A c x.args_) : Calls Try.prog 19 #[.string u, .agg #[.int .i64 x.kind_, .string x.name_, .slice A x.args_.length c]] w fun e w' => e = .returned (.bool (decide (0 < x.cntV u))) ∧ Below w.heap.size w w' := by
  have hcz := cnt_size u x
  obtain ⟨W, hW⟩ : ∃ W, W = w.alloc (.cells #[.int .i64 x.kind_, .string x.name_, .slice A x.args_.length c] 26) := ⟨_, rfl⟩
  have hb0 : Below w.heap.size w W := by rw [hW]; exact (Below.refl _ _).alloc (Nat.le_refl _) _
  have hx1 : Whole W w.heap.size 26 #[.int .i64 x.kind_, .string x.name_, .slice A x.args_.length c] := by rw [hW]; exact Whole.new w _ _
  have HC := Lib.hid (fun (W2 : World) (h : Below w.heap.size w W2) => specTyCount x (.agg #[.int .i64 x.kind_, .string x.name_, .slice A x.args_.length c]) W2 u (by omega) ⟨_, _, rfl, hv.grow h⟩)
  have HB := Lib.hid hb0
  have HW := Lib.hid hW.symm
  have HX := Lib.hid hx1
  clear hb0 hx1 hW hv
  obtain ⟨p0, p1, p2⟩ := cells3 HX.out
  have pl := HX.out.lt
  go_enter Try.func19, Try.ntmps19
  go_upto_region 1 with (fail)
  rw [HW.out]
  go_wp2_with fail
  refine (HC.out W HB.out).mono ?_
  rintro e w2 ⟨rfl, hb2⟩
  have HB2 := Lib.hid (HB.out.trans (hb2.mono HB.out.size))
  clear hb2 p0 p1 p2 pl
  go_wp2
  go_ret
  exact ⟨rfl, HB2.out⟩
/-- What unification leaves: the bindings where it succeeds. -/
def MguPost (o : Option (List BindingX)) (w : World) (e : Ending) (w' : World) : Prop :=
  ∃ V, e = .returned (.tuple #[V, .bool o.isSome]) ∧ (∀ a2, o = some a2 → ∃ (A : Option Addr) (c : Nat), V = .slice A a2.length c ∧ BindingRow w' (Und w'.heap.size) A c a2) ∧ Below w.heap.size w w'
def UniT (N : Nat) : Prop := ∀ (a b : TypeX) (A C E : Option Addr) (ca cb ce : Nat) (acc : List BindingX) (o : Option (List BindingX)) (w : World), mguF 4294967296 N a b acc = some o → TypeRow w (Und w.heap.size) A ca a.args_ → TypeRow w (Und w.heap.size) C cb b.args_ → BindingRow w (Und w.heap.size) E ce acc →
  Calls Try.prog 81 #[.agg #[.int .i64 a.kind_, .string a.name_, .slice A a.args_.length ca], .agg #[.int .i64 b.kind_, .string b.name_, .slice C b.args_.length cb], .slice E acc.length ce] w (MguPost o w)
def UniTL (N : Nat) : Prop := ∀ (l m : List TypeX) (A C E : Option Addr) (ca cb ce : Nat) (acc : List BindingX) (o : Option (List BindingX)) (w : World), mguFL (mguF 4294967296 N) l m acc = some o → l.length = m.length → TypeRow w (Und w.heap.size) A ca l → TypeRow w (Und w.heap.size) C cb m → BindingRow w (Und w.heap.size) E ce acc →
  Calls Try.prog 46 #[.slice A l.length ca, .slice C m.length cb, .slice E acc.length ce] w (MguPost o w)

/-- A type written into its box. -/
theorem box_set {w w3 : World} {X : Nat} {a b c : Value} {k : Int} {s : ByteArray} {A : Option Addr} {n cc : Nat} (hx : Whole w3 X 26 #[a, b, c]) (hX : w.heap.size ≤ X) (hb : Below w.heap.size w w3) :
    ∀ w4, w4 = ((w3.setCell ⟨X, 0, none⟩ (.int .i64 k)).setCell ⟨X, 1, none⟩ (.string s)).setCell ⟨X, 2, none⟩ (.slice A n cc) →
      Whole w4 X 26 #[.int .i64 k, .string s, .slice A n cc] ∧ But X w3 w4 ∧ Below w.heap.size w w4 := by
  rintro w4 rfl
  exact ⟨by simpa using ((hx.set_ 0 (.int .i64 k)).set_ 1 (.string s)).set_ 2 (.slice A n cc), ((But.set_ _ _ 0 _).trans (But.set_ _ _ 1 _)).trans (But.set_ _ _ 2 _), ((hb.setCell (p := ⟨X, 0, none⟩) hX _).setCell (p := ⟨X, 1, none⟩) hX _).setCell (p := ⟨X, 2, none⟩) hX _⟩
set_option maxRecDepth 100000 in
set_option maxHeartbeats 4000000 in
theorem uniT_step (N : Nat) (ih : UniTL N) : UniT (N + 1) := by
  intro a b A C E ca cb ce acc o w ho hA hC hE
  rw [mguF] at ho
  by_cases hfit : FitsX 4294967296 a b acc
  case neg => rw [if_neg hfit] at ho; cases ho
  rw [if_pos hfit] at ho
  obtain ⟨hal, hac, haz, hbz, hxz, hyz⟩ := hfit
  obtain ⟨W, hW⟩ : ∃ W, W = (w.alloc (.cells #[.int .i64 a.kind_, .string a.name_, .slice A a.args_.length ca] 26)).alloc (.cells #[.int .i64 b.kind_, .string b.name_, .slice C b.args_.length cb] 26) := ⟨_, rfl⟩
  have hb0 : Below w.heap.size w W := by rw [hW]; exact ((Below.refl _ _).alloc (Nat.le_refl _) _).alloc (by simp) _
  have hs : W.heap.size = w.heap.size + 2 := by rw [hW]; simp
  have hx1 : Whole W w.heap.size 26 #[.int .i64 a.kind_, .string a.name_, .slice A a.args_.length ca] := by rw [hW]; exact (Whole.new w _ _).below ((Below.refl (w.heap.size + 1) _).alloc (by simp) _) (by omega)
  have hx2 : Whole W (w.heap.size + 1) 26 #[.int .i64 b.kind_, .string b.name_, .slice C b.args_.length cb] := by
    have h := Whole.new (w.alloc (.cells #[.int .i64 a.kind_, .string a.name_, .slice A a.args_.length ca] 26)) 26 #[.int .i64 b.kind_, .string b.name_, .slice C b.args_.length cb]
    rw [World.size_alloc] at h; rw [hW]; exact h
  obtain ⟨x, hx⟩ : ∃ x, x = a.sub (subX acc) := ⟨_, rfl⟩
  obtain ⟨y, hy⟩ : ∃ y, y = b.sub (subX acc) := ⟨_, rfl⟩
  have hcx := specApply acc E ce a A ca W haz hac (hE.grow hb0) (hA.grow hb0)
  rw [← hx] at hcx hxz ho
  rw [← hy] at hyz ho
  have hcy := fun (W4 : World) (h4 : Below w.heap.size w W4) => specApply acc E ce b C cb W4 hbz hac (hE.grow h4) (hC.grow h4)
  rw [← hy] at hcy
  have HEG := Lib.hid (fun (W4 : World) (h4 : Below w.heap.size w W4) => hE.grow h4)
  have HO := Lib.hid ho
  have HCX := Lib.hid hcx
  have HCY := Lib.hid hcy
  have HX1 := Lib.hid hx1
  have HX2 := Lib.hid hx2
  have HB := Lib.hid hb0
  have HS := Lib.hid hs
  have HW := Lib.hid hW.symm
  clear ho hcx hcy hx1 hx2 hb0 hs hW hx hy hA hC hE
  go_enter Try.func81, Try.ntmps81
  go_upto_region 1 with (fail)
  rw [HW.out]
  obtain ⟨p0, p1, p2⟩ := cells3 HX1.out
  have pl := HX1.out.lt
  go_wp2_with fail
  refine HCX.out.mono ?_
  intro e w1 hm
  obtain ⟨A1, c1, bs1, rfl, -, -, hr1, -, hb1⟩ := madeV_get hm
  have hx1 := HX1.out.below hb1 HX1.out.lt
  obtain ⟨z0, z1, z2⟩ := cells3 hx1
  have zf0 := hx1.frozen 0
  have zf1 := hx1.frozen 1
  have zf2 := hx1.frozen 2
  have zlt := hx1.lt
  have HE4 := Lib.hid (box_set (w := w) (k := x.kind_) (s := x.name_) (A := A1) (n := x.args_.length) (cc := c1) hx1 (Nat.le_refl _) (HB.out.trans (hb1.mono (by have := HS.out; omega))))
  have HR1 := Lib.hid hr1
  have HB1 := Lib.hid hb1
  have HX2 := Lib.hid (HX2.out.below hb1 HX2.out.lt)
  clear hm hr1 hb1 hx1 p0 p1 p2 pl
  go_upto_region 2 with (fail)
  obtain ⟨W4, hW4⟩ : ∃ W4, W4 = ((w1.setCell ⟨w.heap.size, 0, none⟩ (.int .i64 x.kind_)).setCell ⟨w.heap.size, 1, none⟩ (.string x.name_)).setCell ⟨w.heap.size, 2, none⟩ (.slice A1 x.args_.length c1) := ⟨_, rfl⟩
  rw [← hW4]
  obtain ⟨hx4, hbut4, hb4⟩ := HE4.out W4 hW4
  have hs1 := HB1.out.size
  have hs4 := hbut4.size
  have hr4 : TypeRow W4 (Bet W.heap.size W4.heap.size) A1 c1 x.args_ := RdV_frame (fun b h => ⟨h.1, Nat.lt_of_lt_of_le h.2 hs4⟩) (fun b o h => World.cell?_of_block (a := ⟨b, o, none⟩) (hbut4.block b h.2 (by have := h.1; have := HS.out; omega))) _ HR1.out
  have hy4 := whole_but HX2.out hbut4 (by omega)
  have hcy := HCY.out W4 hb4
  have hS4 : W.heap.size ≤ W4.heap.size := by omega
  have HX4 := Lib.hid hx4
  have HY4 := Lib.hid hy4
  have HR4 := Lib.hid hr4
  have HB4 := Lib.hid hb4
  have HS4 := Lib.hid hS4
  have HCY := Lib.hid hcy
  clear hW4 hx4 hbut4 hb4 hs1 hs4 hr4 hy4 hcy hS4 HE4 HR1 HB1 HX2 z0 z1 z2 zf0 zf1 zf2 zlt
  obtain ⟨p0, p1, p2⟩ := cells3 HY4.out
  have pl := HY4.out.lt
  go_wp2_with fail
  refine HCY.out.mono ?_
  intro e w5 hm
  obtain ⟨A5, c5, bs5, rfl, -, -, hr5, -, hb5⟩ := madeV_get hm
  have hy5 := HY4.out.below hb5 HY4.out.lt
  obtain ⟨z0, z1, z2⟩ := cells3 hy5
  have zf0 := hy5.frozen 0
  have zf1 := hy5.frozen 1
  have zf2 := hy5.frozen 2
  have zlt := hy5.lt
  have HE6 := Lib.hid (box_set (w := w) (k := y.kind_) (s := y.name_) (A := A5) (n := y.args_.length) (cc := c5) hy5 (Nat.le_succ _) (HB4.out.trans (hb5.mono (by have := HS.out; have := HS4.out; omega))))
  have HR5 := Lib.hid hr5
  have HB5 := Lib.hid hb5
  clear hm hr5 hb5 hy5 p0 p1 p2 pl
  go_upto_region 3 with (fail)
  obtain ⟨W6, hW6⟩ : ∃ W6, W6 = ((w5.setCell ⟨w.heap.size + 1, 0, none⟩ (.int .i64 y.kind_)).setCell ⟨w.heap.size + 1, 1, none⟩ (.string y.name_)).setCell ⟨w.heap.size + 1, 2, none⟩ (.slice A5 y.args_.length c5) := ⟨_, rfl⟩
  rw [← hW6]
  obtain ⟨hy6, hbut6, hb6⟩ := HE6.out W6 hW6
  have hs5 := HB5.out.size
  have hs6 := hbut6.size
  have hry : TypeRow W6 (Und W6.heap.size) A5 c5 y.args_ := RdV_frame (fun b h => Nat.lt_of_lt_of_le h.2 hs6) (fun b o h => World.cell?_of_block (a := ⟨b, o, none⟩) (hbut6.block b h.2 (by have := h.1; have := HS.out; have := HS4.out; omega))) _ HR5.out
  have hrx : TypeRow W6 (Und W6.heap.size) A1 c1 x.args_ := RdV_frame (fun b h => Nat.lt_of_lt_of_le h.2 (Nat.le_trans hs5 hs6)) (fun b o h => (World.cell?_of_block (a := ⟨b, o, none⟩) (hbut6.block b (Nat.lt_of_lt_of_le h.2 hs5) (by have := h.1; have := HS.out; omega))).trans (HB5.out.cell (p := ⟨b, o, none⟩) h.2)) _ HR4.out
  have hx6 := whole_but (HX4.out.below HB5.out HX4.out.lt) hbut6 (by omega)
  have he6 := HEG.out W6 hb6
  have hcs := specSameTy x y (.agg #[.int .i64 x.kind_, .string x.name_, .slice A1 x.args_.length c1]) (.agg #[.int .i64 y.kind_, .string y.name_, .slice A5 y.args_.length c5]) W6 ⟨_, _, rfl, hrx⟩ ⟨_, _, rfl, hry⟩
  have HX := Lib.hid hx6
  have HY := Lib.hid hy6
  have HRX := Lib.hid hrx
  have HRY := Lib.hid hry
  have HEE := Lib.hid he6
  have HB := Lib.hid hb6
  have HCS := Lib.hid hcs
  clear hW6 hy6 hbut6 hb6 hs5 hs6 hry hrx hx6 he6 hcs HE6 HR5 HB5 HX4 HY4 HR4 HB4 HS4 HCY HCX HX1 HEG HW HS z0 z1 z2 zf0 zf1 zf2 zlt
  obtain ⟨p0, p1, p2⟩ := cells3 HX.out
  obtain ⟨q0, q1, q2⟩ := cells3 HY.out
  have pl := HX.out.lt
  have ql := HY.out.lt
  go_wp2_with fail
  refine HCS.out.mono ?_
  rintro e w7 ⟨rfl, hb7⟩
  cases hsm : x.same y with
  | true =>
    have ho := HO.out
    rw [mguFAt, if_pos hsm] at ho
    injection ho with ho
    subst ho
    have HE7 := Lib.hid (HEE.out.grow hb7)
    have HB7 := Lib.hid (HB.out.trans (hb7.mono HB.out.size))
    clear hb7 p0 p1 p2 pl q0 q1 q2 ql
    go_wp2
    go_ret2
    exact ⟨_, rfl, fun a2 h => by injection h with h; subst h; exact ⟨_, _, rfl, HE7.out⟩, HB7.out⟩
  | false =>
    have ho := HO.out
    rw [mguFAt, if_neg (by rw [hsm]; exact Bool.false_ne_true)] at ho
    have HO := Lib.hid ho
    have HX := Lib.hid (HX.out.below hb7 HX.out.lt)
    have HY := Lib.hid (HY.out.below hb7 HY.out.lt)
    have HRX := Lib.hid (HRX.out.grow hb7)
    have HRY := Lib.hid (HRY.out.grow hb7)
    have HEE := Lib.hid (HEE.out.grow hb7)
    have HB := Lib.hid (HB.out.trans (hb7.mono HB.out.size))
    clear ho hb7 p0 p1 p2 pl q0 q1 q2 ql
    obtain ⟨p0, p1, p2⟩ := cells3 HX.out
    obtain ⟨q0, q1, q2⟩ := cells3 HY.out
    have pl := HX.out.lt
    have ql := HY.out.lt
    have HSC : Hid (∀ w2 : World, Below w7.heap.size w7 w2 → w2.cell? ⟨w.heap.size, 0, none⟩ = some (.int .i64 x.kind_) ∧ w2.cell? ⟨w.heap.size, 1, none⟩ = some (.string x.name_) ∧ w2.cell? ⟨w.heap.size, 2, none⟩ = some (.slice A1 x.args_.length c1) ∧ w2.cell? ⟨w.heap.size + 1, 0, none⟩ = some (.int .i64 y.kind_) ∧ w2.cell? ⟨w.heap.size + 1, 1, none⟩ = some (.string y.name_) ∧ w2.cell? ⟨w.heap.size + 1, 2, none⟩ = some (.slice A5 y.args_.length c5)) := Lib.hid fun w2 h =>
      ⟨(cells3 (HX.out.below h HX.out.lt)).1, (cells3 (HX.out.below h HX.out.lt)).2.1, (cells3 (HX.out.below h HX.out.lt)).2.2, cells3 (HY.out.below h HY.out.lt)⟩
    have HTX := Lib.hid (fun (w2 : World) (h : Below w7.heap.size w7 w2) => specTySize x (.agg #[.int .i64 x.kind_, .string x.name_, .slice A1 x.args_.length c1]) w2 hxz ⟨_, _, rfl, HRX.out.grow h⟩)
    have HTY := Lib.hid (fun (w2 : World) (h : Below w7.heap.size w7 w2) => specTySize y (.agg #[.int .i64 y.kind_, .string y.name_, .slice A5 y.args_.length c5]) w2 hyz ⟨_, _, rfl, HRY.out.grow h⟩)
    have hcur : Below w7.heap.size w7 w7.drew := (Below.refl _ w7).drew
    have hsum : IntKind.i64.wrap ((x.size : Int) + (y.size : Int)) = (x.size : Int) + (y.size : Int) := IntWalk.i64_in _ (by omega)
    go_upto_region 5 with (fail)
    go_region_held3 (fun w2 => w2.cell? ⟨w.heap.size, 0, none⟩ = some (.int .i64 x.kind_) ∧ w2.cell? ⟨w.heap.size, 1, none⟩ = some (.string x.name_) ∧ w2.cell? ⟨w.heap.size, 2, none⟩ = some (.slice A1 x.args_.length c1) ∧ w2.cell? ⟨w.heap.size + 1, 0, none⟩ = some (.int .i64 y.kind_) ∧ w2.cell? ⟨w.heap.size + 1, 1, none⟩ = some (.string y.name_) ∧ w2.cell? ⟨w.heap.size + 1, 2, none⟩ = some (.slice A5 y.args_.length c5))
      (first
       | go_keep
       | exact HSC.out _ hcur)
      (first
       | (go_at_call_of 98 (Value.agg #[.int .i64 x.kind_, .string x.name_, .slice A1 x.args_.length c1])
          refine (HTX.out _ hcur).mono ?_
          rintro e w8 ⟨rfl, hb8⟩
          have hcur := hcur.trans (hb8.mono hcur.size)
          clear hb8)
       | (go_at_call_of 98 (Value.agg #[.int .i64 y.kind_, .string y.name_, .slice A5 y.args_.length c5])
          refine (HTY.out _ hcur).mono ?_
          rintro e w9 ⟨rfl, hb9⟩
          have hcur := hcur.trans (hb9.mono hcur.size)
          clear hb9))
    have HX := Lib.hid (HX.out.below hcur HX.out.lt)
    have HY := Lib.hid (HY.out.below hcur HY.out.lt)
    have HRX := Lib.hid (HRX.out.grow hcur)
    have HRY := Lib.hid (HRY.out.grow hcur)
    have HEE := Lib.hid (HEE.out.grow hcur)
    have HB := Lib.hid (HB.out.trans (hcur.mono HB.out.size))
    clear hcur p0 p1 p2 pl q0 q1 q2 ql HSC HTX HTY hsum
    by_cases hz : 4000 < x.size + y.size
    · have ho := HO.out
      rw [if_pos hz] at ho
      injection ho with ho
      subst ho
      have hd : decide ((4000 : Int) < (x.size : Int) + (y.size : Int)) = true := by simp; omega
      rw [hd]
      go_wp2
      go_ret2
      exact ⟨_, rfl, fun a2 h => (by cases h), HB.out⟩
    have ho := HO.out
    rw [if_neg hz] at ho
    have HO := Lib.hid ho
    have hd : decide ((4000 : Int) < (x.size : Int) + (y.size : Int)) = false := by simp; omega
    rw [hd]
    clear ho hd hz
    obtain ⟨p0, p1, p2⟩ := cells3 HX.out
    obtain ⟨q0, q1, q2⟩ := cells3 HY.out
    have pl := HX.out.lt
    have ql := HY.out.lt
    by_cases hxk : x.kind_ = 1
    · have hkb : (x.kind_ == 1) = true := by rw [hxk]; rfl
      have HKX := Lib.hid hxk
      clear hxk
      have ho := HO.out
      rw [if_pos HKX.out] at ho
      have HBD := Lib.hid (fun (w2 : World) (h : Below w9.heap.size w9 w2) => specBound acc E ce x.name_ y A5 c5 w2 hyz hac (by omega) (HEE.out.grow h) (HRY.out.grow h))
      obtain ⟨occ, hocc⟩ : ∃ occ, occ = decide (0 < y.cntV x.name_) := ⟨_, rfl⟩
      obtain ⟨nb, hnb⟩ : ∃ nb, nb = boundX acc x.name_ y := ⟨_, rfl⟩
      rw [← hnb] at HBD
      have hoc := fun (w2 : World) (h : Below w9.heap.size w9 w2) => specOccurs x.name_ y A5 c5 w2 hyz (HRY.out.grow h)
      rw [← hocc] at hoc
      have HOC := Lib.hid hoc
      have HOCC := Lib.hid hocc
      have HNB := Lib.hid hnb
      have HSC : Hid (∀ w2 : World, Below w9.heap.size w9 w2 → w2.cell? ⟨w.heap.size, 0, none⟩ = some (.int .i64 x.kind_) ∧ w2.cell? ⟨w.heap.size, 1, none⟩ = some (.string x.name_) ∧ w2.cell? ⟨w.heap.size, 2, none⟩ = some (.slice A1 x.args_.length c1) ∧ w2.cell? ⟨w.heap.size + 1, 0, none⟩ = some (.int .i64 y.kind_) ∧ w2.cell? ⟨w.heap.size + 1, 1, none⟩ = some (.string y.name_) ∧ w2.cell? ⟨w.heap.size + 1, 2, none⟩ = some (.slice A5 y.args_.length c5)) := Lib.hid fun w2 h =>
        ⟨(cells3 (HX.out.below h HX.out.lt)).1, (cells3 (HX.out.below h HX.out.lt)).2.1, (cells3 (HX.out.below h HX.out.lt)).2.2, cells3 (HY.out.below h HY.out.lt)⟩
      have hcur : Below w9.heap.size w9 w9.drew := (Below.refl _ w9).drew
      clear hoc hocc hnb
      go_upto_region 8 with (fail)
      go_region_held3 (fun w2 => w2.cell? ⟨w.heap.size, 0, none⟩ = some (.int .i64 x.kind_) ∧ w2.cell? ⟨w.heap.size, 1, none⟩ = some (.string x.name_) ∧ w2.cell? ⟨w.heap.size, 2, none⟩ = some (.slice A1 x.args_.length c1) ∧ w2.cell? ⟨w.heap.size + 1, 0, none⟩ = some (.int .i64 y.kind_) ∧ w2.cell? ⟨w.heap.size + 1, 1, none⟩ = some (.string y.name_) ∧ w2.cell? ⟨w.heap.size + 1, 2, none⟩ = some (.slice A5 y.args_.length c5))
        (first
         | go_keep
         | exact HSC.out _ hcur)
        (first
         | (go_at_call 99
            refine (HBD.out _ hcur).mono ?_
            intro e w10 hm
            obtain ⟨A10, c10, bs10, rfl, -, -, hr10, -, hb10⟩ := madeR_get (BindingX.rows_length nb) hm
            have hcur := hcur.trans (hb10.mono hcur.size)
            have HR10 := Lib.hid (show BindingRow w10 (Und w10.heap.size) A10 c10 nb from rd_und hr10 (Nat.le_refl _))
            clear hm hb10 hr10)
         | (go_at_call 19
            refine (HOC.out _ hcur).mono ?_
            rintro e w11 ⟨rfl, hb11⟩
            have hcur := hcur.trans (hb11.mono hcur.size)
            have HR11 := Lib.hid (HR10.out.grow hb11)
            clear hb11))
      have HBE := Lib.hid (HB.out.trans (hcur.mono HB.out.size))
      go_wp2
      go_ret2
      cases occ with
      | true =>
        rw [if_pos (of_decide_eq_true HOCC.out.symm)] at ho
        injection ho with ho
        subst ho
        exact ⟨_, rfl, fun a2 h => (by cases h), HBE.out⟩
      | false =>
        rw [if_neg (of_decide_eq_false HOCC.out.symm), ← HNB.out] at ho
        injection ho with ho
        subst ho
        exact ⟨_, rfl, fun a2 h => by injection h with h; subst h; exact ⟨_, _, rfl, HR11.out⟩, HBE.out⟩
    · have hkb : (x.kind_ == 1) = false := by simpa using hxk
      have ho := HO.out
      rw [if_neg hxk] at ho
      have HO := Lib.hid ho
      clear ho
      by_cases hyk : y.kind_ = 1
      · have hkb2 : (y.kind_ == 1) = true := by rw [hyk]; rfl
        have HKX := Lib.hid hyk
        have hxk' := Lib.hid hxk
        clear hyk hxk
        have ho := HO.out
        rw [if_pos HKX.out] at ho
        have HBD := Lib.hid (fun (w2 : World) (h : Below w9.heap.size w9 w2) => specBound acc E ce y.name_ x A1 c1 w2 hxz hac (by omega) (HEE.out.grow h) (HRX.out.grow h))
        obtain ⟨occ, hocc⟩ : ∃ occ, occ = decide (0 < x.cntV y.name_) := ⟨_, rfl⟩
        obtain ⟨nb, hnb⟩ : ∃ nb, nb = boundX acc y.name_ x := ⟨_, rfl⟩
        rw [← hnb] at HBD
        have hoc := fun (w2 : World) (h : Below w9.heap.size w9 w2) => specOccurs y.name_ x A1 c1 w2 hxz (HRX.out.grow h)
        rw [← hocc] at hoc
        have HOC := Lib.hid hoc
        have HOCC := Lib.hid hocc
        have HNB := Lib.hid hnb
        have HSC : Hid (∀ w2 : World, Below w9.heap.size w9 w2 → w2.cell? ⟨w.heap.size, 0, none⟩ = some (.int .i64 x.kind_) ∧ w2.cell? ⟨w.heap.size, 1, none⟩ = some (.string x.name_) ∧ w2.cell? ⟨w.heap.size, 2, none⟩ = some (.slice A1 x.args_.length c1) ∧ w2.cell? ⟨w.heap.size + 1, 0, none⟩ = some (.int .i64 y.kind_) ∧ w2.cell? ⟨w.heap.size + 1, 1, none⟩ = some (.string y.name_) ∧ w2.cell? ⟨w.heap.size + 1, 2, none⟩ = some (.slice A5 y.args_.length c5)) := Lib.hid fun w2 h =>
          ⟨(cells3 (HX.out.below h HX.out.lt)).1, (cells3 (HX.out.below h HX.out.lt)).2.1, (cells3 (HX.out.below h HX.out.lt)).2.2, cells3 (HY.out.below h HY.out.lt)⟩
        have hcur : Below w9.heap.size w9 w9.drew := (Below.refl _ w9).drew
        clear hoc hocc hnb
        go_upto_region 10 with (fail)
        go_region_held3 (fun w2 => w2.cell? ⟨w.heap.size, 0, none⟩ = some (.int .i64 x.kind_) ∧ w2.cell? ⟨w.heap.size, 1, none⟩ = some (.string x.name_) ∧ w2.cell? ⟨w.heap.size, 2, none⟩ = some (.slice A1 x.args_.length c1) ∧ w2.cell? ⟨w.heap.size + 1, 0, none⟩ = some (.int .i64 y.kind_) ∧ w2.cell? ⟨w.heap.size + 1, 1, none⟩ = some (.string y.name_) ∧ w2.cell? ⟨w.heap.size + 1, 2, none⟩ = some (.slice A5 y.args_.length c5))
          (first
           | go_keep
           | exact HSC.out _ hcur)
          (first
           | (go_at_call 99
              refine (HBD.out _ hcur).mono ?_
              intro e w10 hm
              obtain ⟨A10, c10, bs10, rfl, -, -, hr10, -, hb10⟩ := madeR_get (BindingX.rows_length nb) hm
              have hcur := hcur.trans (hb10.mono hcur.size)
              have HR10 := Lib.hid (show BindingRow w10 (Und w10.heap.size) A10 c10 nb from rd_und hr10 (Nat.le_refl _))
              clear hm hb10 hr10)
           | (go_at_call 19
              refine (HOC.out _ hcur).mono ?_
              rintro e w11 ⟨rfl, hb11⟩
              have hcur := hcur.trans (hb11.mono hcur.size)
              have HR11 := Lib.hid (HR10.out.grow hb11)
              clear hb11))
        have HBE := Lib.hid (HB.out.trans (hcur.mono HB.out.size))
        go_wp2
        go_ret2
        cases occ with
        | true =>
          rw [if_pos (of_decide_eq_true HOCC.out.symm)] at ho
          injection ho with ho
          subst ho
          exact ⟨_, rfl, fun a2 h => (by cases h), HBE.out⟩
        | false =>
          rw [if_neg (of_decide_eq_false HOCC.out.symm), ← HNB.out] at ho
          injection ho with ho
          subst ho
          exact ⟨_, rfl, fun a2 h => by injection h with h; subst h; exact ⟨_, _, rfl, HR11.out⟩, HBE.out⟩
      · have hkb2 : (y.kind_ == 1) = false := by simpa using hyk
        have ho := HO.out
        rw [if_neg hyk] at ho
        clear hxk hyk
        by_cases c1' : x.kind_ = y.kind_
        · by_cases c2' : x.name_ = y.name_
          · have c2'' : x.name_.toList = y.name_.toList := by rw [c2']
            by_cases c3' : x.args_.length = y.args_.length
            · rw [if_pos ⟨c1', c2', c3'⟩] at ho
              have hcall := ih x.args_ y.args_ A1 A5 E c1 c5 ce acc o w9 ho c3' HRX.out HRY.out HEE.out
              have hne : ((x.args_.length : Int) != (y.args_.length : Int)) = false := by rw [c3']; simp
              have HCALL := Lib.hid hcall
              clear hcall c2' c3' ho
              go_wp2_with fail
              refine HCALL.out.mono ?_
              rintro e w10 ⟨V, rfl, hr10, hb10⟩
              have HR10 := Lib.hid hr10
              have HB10 := Lib.hid (HB.out.trans (hb10.mono HB.out.size))
              clear hr10 hb10 p0 p1 p2 q0 q1 q2 pl ql
              go_wp2
              go_ret2
              exact ⟨V, rfl, HR10.out, HB10.out⟩
            · rw [if_neg (fun h => c3' h.2.2)] at ho
              injection ho with ho
              subst ho
              have hne : ((x.args_.length : Int) != (y.args_.length : Int)) = true := by rw [bne_iff_ne]; omega
              clear c2' c3'
              go_wp2
              go_ret2
              exact ⟨_, rfl, fun a2 h => (by cases h), HB.out⟩
          · rw [if_neg (fun h => c2' h.2.1)] at ho
            injection ho with ho
            subst ho
            have hne : ¬ x.name_.toList = y.name_.toList := fun h => by have h2 := text_ne c2'; rw [h] at h2; simp at h2
            clear c2'
            go_wp2
            go_ret2
            exact ⟨_, rfl, fun a2 h => (by cases h), HB.out⟩
        · rw [if_neg (fun h => c1' h.1)] at ho
          injection ho with ho
          subst ho
          go_wp2
          go_ret2
          exact ⟨_, rfl, fun a2 h => (by cases h), HB.out⟩
set_option maxRecDepth 100000 in
set_option maxHeartbeats 4000000 in
theorem uniTL_step (N : Nat) (ih : UniT N) : UniTL N := by
  intro l m A C E ca cb ce acc o w ho hlen hA hC hE
  have HO := Lib.hid ho
  have HP := Lib.hid hA
  have HT := Lib.hid hC
  have HK := Lib.hid hE
  have HLEN := Lib.hid hlen
  have hpl := hA.cap
  clear ho hA hC hE hlen
  go_enter Try.func46, Try.ntmps46
  go_wp2
  go_loopw [2, 8] (fun lv iv wr => ∃ (k : Nat) (ak : List BindingX) (Ak : Option Addr) (ck : Nat), k ≤ l.length ∧ iv = .int .i64 k ∧ mguFL (mguF 4294967296 N) (l.take k) (m.take k) acc = some (some ak) ∧ lv = .slice Ak ak.length ck ∧ BindingRow wr (Und wr.heap.size) Ak ck ak ∧ Below w.heap.size w wr) (fun _ iv _ => l.length - (Go.RowKit.intOf iv).toNat)
  case atStart => exact ⟨0, acc, E, ce, Nat.zero_le _, rfl, by rw [List.take_zero, List.take_zero, mguFL], rfl, HK.out, Below.refl _ _⟩
  case round =>
    obtain ⟨k, ak, Av, cv, hkl, rfl, hm, rfl, hka, hb⟩ := hrel
    have hbs := hb.size
    by_cases hlt : k < l.length
    · have hlt2 : k < m.length := by have := HLEN.out; omega
      obtain ⟨b, o', A3, c3, rfl, hPb, p0, p1, p2, h3⟩ := (HP.out.frame (w' := wr) (fun _ h => h) fun b o h => hb.cell (p := ⟨b, o, none⟩) h).at_ hlt
      obtain ⟨b2, o2, C3, d3, rfl, hPb2, q0, q1, q2, h4⟩ := (HT.out.frame (w' := wr) (fun _ h => h) fun b o h => hb.cell (p := ⟨b, o, none⟩) h).at_ hlt2
      have hstep := mguFL_step (mguF 4294967296 N) l m acc k hlt hlt2 ak hm
      obtain ⟨oo, hoo⟩ : ∃ oo, mguF 4294967296 N l[k] m[k] ak = some oo := by
        cases h : mguF 4294967296 N l[k] m[k] ak with
        | some oo => exact ⟨oo, rfl⟩
        | none =>
          rw [h] at hstep
          have := mguFL_unknown _ _ _ _ _ hstep HLEN.out
          rw [HO.out] at this; cases this
      rw [hoo] at hstep
      have hcall := ih l[k] m[k] A3 C3 Av c3 d3 cv ak oo wr.drew hoo (h3.frame (fun b h => Nat.lt_of_lt_of_le (show b < w.heap.size from h) hbs) fun _ _ _ => rfl) (h4.frame (fun b h => Nat.lt_of_lt_of_le (show b < w.heap.size from h) hbs) fun _ _ _ => rfl) (hka.frame (fun _ h => h) fun _ _ _ => rfl)
      have HC := Lib.hid hcall
      have HST := Lib.hid hstep
      have hbB : b < w.heap.size := hPb
      have hbB2 : b2 < w.heap.size := hPb2
      have HSC : Hid (∀ w2 : World, Below w.heap.size wr.drew w2 → w2.cell? ⟨b, o' + k * 3, none⟩ = some (.int .i64 l[k].kind_) ∧ w2.cell? ⟨b, o' + k * 3 + 1, none⟩ = some (.string l[k].name_) ∧ w2.cell? ⟨b, o' + k * 3 + 2, none⟩ = some (.slice A3 l[k].args_.length c3) ∧ w2.cell? ⟨b2, o2 + k * 3, none⟩ = some (.int .i64 m[k].kind_) ∧ w2.cell? ⟨b2, o2 + k * 3 + 1, none⟩ = some (.string m[k].name_) ∧ w2.cell? ⟨b2, o2 + k * 3 + 2, none⟩ = some (.slice C3 m[k].args_.length d3)) := Lib.hid fun w2 h =>
        ⟨(h.cell (p := ⟨b, _, none⟩) hbB).trans p0, (h.cell (p := ⟨b, _, none⟩) hbB).trans p1, (h.cell (p := ⟨b, _, none⟩) hbB).trans p2, (h.cell (p := ⟨b2, _, none⟩) hbB2).trans q0, (h.cell (p := ⟨b2, _, none⟩) hbB2).trans q1, (h.cell (p := ⟨b2, _, none⟩) hbB2).trans q2⟩
      have hk0 : (0 : Int) ≤ (k : Int) := Int.natCast_nonneg _
      have hk1 : (k : Int) < (l.length : Int) := by omega
      have hk2 : (k : Int) < (m.length : Int) := by omega
      have hcur : Below w.heap.size wr.drew wr.drew := Below.refl _ _
      have HBS := Lib.hid hbs
      clear hm hka hoo hcall hstep h3 h4 hPb hPb2
      go_upto_region 4 with (fail)
      go_region_held3 (fun w2 => w2.cell? ⟨b, o' + k * 3, none⟩ = some (.int .i64 l[k].kind_) ∧ w2.cell? ⟨b, o' + k * 3 + 1, none⟩ = some (.string l[k].name_) ∧ w2.cell? ⟨b, o' + k * 3 + 2, none⟩ = some (.slice A3 l[k].args_.length c3) ∧ w2.cell? ⟨b2, o2 + k * 3, none⟩ = some (.int .i64 m[k].kind_) ∧ w2.cell? ⟨b2, o2 + k * 3 + 1, none⟩ = some (.string m[k].name_) ∧ w2.cell? ⟨b2, o2 + k * 3 + 2, none⟩ = some (.slice C3 m[k].args_.length d3))
        (first
         | go_keep
         | exact HSC.out _ hcur)
        (first
         | (go_at_call 81
            refine HC.out.mono ?_
            rintro e w7 ⟨V7, rfl, hk7, hb7'⟩
            have hb7 : Below w.heap.size wr.drew w7 := hb7'.mono HBS.out
            have hcur := hcur.trans hb7
            have HK7 := Lib.hid hk7
            clear hk7 hb7'))
      have HB7 := Lib.hid (hb.trans ((Below.refl w.heap.size wr).drew.trans hb7))
      cases oo with
      | none =>
        have hno := mguFL_none _ l m acc (k + 1) HST.out HLEN.out
        rw [HO.out] at hno
        injection hno with hno
        subst hno
        go_wp2
        go_ret2
        exact ⟨_, rfl, fun a2 h => (by cases h), HB7.out⟩
      | some a2 =>
        obtain ⟨A2, c2, rfl, hr2⟩ := HK7.out a2 rfl
        have HR2 := Lib.hid hr2
        clear hr2
        go_wp2
        go_roundw
        case rel => exact ⟨k + 1, a2, A2, c2, by omega, by go_num, HST.out, rfl, HR2.out, HB7.out⟩
        case measure => simp [Go.RowKit.intOf]; omega
    · obtain rfl : k = l.length := by omega
      rw [List.take_length, HLEN.out, List.take_length, HO.out] at hm
      injection hm with hm
      subst hm
      have HKA := Lib.hid hka
      clear hka
      go_wp2
      go_ret2
      exact ⟨_, rfl, fun a2 h => by injection h with h; subst h; exact ⟨_, _, rfl, HKA.out⟩, hb⟩
theorem uniT_zero : UniT 0 := fun a b A C E ca cb ce acc o w ho => by rw [mguF] at ho; cases ho
theorem uniTAll : ∀ N, UniT N
  | 0 => uniT_zero
  | N + 1 => uniT_step N (uniTL_step N (uniTAll N))
/-- THE REFERENCE MODEL'S UNIFICATION OF A LIST OF PAIRS. -/
theorem specUniAll (N : Nat) : UniTL N := uniTL_step N (uniTAll N)
end Go.Proofs.Ytpffmcofajlkgaa

/- The variables of a type, each once: the reference model's. -/
import Derived.Test.YtngbilblddngcaaDoorQ1
import Derived.Test.YtngbilblddngcaaDoorQ2
import Derived.Maps.AppendAt
namespace Go.Proofs.YtngbilblddngcaaDoor
open Go.RowKit Go.Lib

mutual
def TypeX.vars (acc : List ByteArray) : TypeX → List ByteArray
  | .mk k s l => TypeX.varsL (if k = 1 then addNew acc s else acc) l
def TypeX.varsL (acc : List ByteArray) : List TypeX → List ByteArray
  | [] => acc
  | x :: r => TypeX.varsL (x.vars acc) r
end
theorem TypeX.vars_eq (acc : List ByteArray) (x : TypeX) : x.vars acc = TypeX.varsL (if x.kind_ = 1 then addNew acc x.name_ else acc) x.args_ := by cases x with | mk a b c => rw [TypeX.vars]; rfl
theorem TypeX.varsL_take : ∀ (l : List TypeX) (acc : List ByteArray) (j : Nat) (h : j < l.length), TypeX.varsL acc (l.take (j + 1)) = l[j].vars (TypeX.varsL acc (l.take j))
  | x :: r, acc, 0, _ => by simp [TypeX.varsL]
  | x :: r, acc, j + 1, h => by
    rw [List.take_succ_cons, List.take_succ_cons, TypeX.varsL, TypeX.varsL, TypeX.varsL_take r _ j (by simpa using h)]
    simp
theorem addNew_len (acc : List ByteArray) (s : ByteArray) : (addNew acc s).length ≤ acc.length + 1 := by
  unfold addNew
  split <;> simp
mutual
theorem TypeX.vars_len : ∀ (x : TypeX) (acc : List ByteArray), (x.vars acc).length ≤ acc.length + x.size
  | .mk k s l, acc => by
    rw [TypeX.vars, TypeX.size]
    have h1 := TypeX.varsL_len l (if k = 1 then addNew acc s else acc)
    have h2 := addNew_len acc s
    split at h1 <;> rename_i hk <;> simp only [hk, if_true, if_false] at * <;> omega
theorem TypeX.varsL_len : ∀ (l : List TypeX) (acc : List ByteArray), (TypeX.varsL acc l).length ≤ acc.length + TypeX.sizeL l
  | [], acc => by rw [TypeX.varsL]; omega
  | x :: r, acc => by
    rw [TypeX.varsL, TypeX.sizeL]
    have h1 := TypeX.vars_len x acc
    have h2 := TypeX.varsL_len r (x.vars acc)
    omega
end
/-- A block that is there, and not the row's own. -/
def Apart (V : Value) (w : World) (b : Nat) : Prop := b < w.heap.size ∧ V.ownBlock ≠ some b
/-- A row that grew: where it was, or new. -/
def NewOwn (w : World) (V V' : Value) : Prop := ∀ g, V'.ownBlock = some g → V.ownBlock = some g ∨ w.heap.size ≤ g
/-- THE ROW GREW: it holds these; all else is as it was. -/
def Grew (B : Nat) (V : Value) (d : List ByteArray) (w : World) (e : Ending) (w' : World) : Prop :=
  ∃ V', e = .returned V' ∧ w'.ownsRow B 9 1 V' d.length (d.map Value.string) ∧ w.grownBy w' V.ownBlock ∧ NewOwn w V V'
theorem TypeRow.apart {w w' : World} {V V' : Value} {A : Option Addr} {c : Nat} {l : List TypeX} (h : TypeRow w (Apart V w) A c l) (hg : w.grownBy w' V.ownBlock) (hn : NewOwn w V V') : TypeRow w' (Apart V' w') A c l :=
  h.frame (fun b hP => ⟨Nat.lt_of_lt_of_le hP.1 hg.size, fun e => by
    rcases hn b e with h | h
    · exact hP.2 h
    · have := hP.1; omega⟩) fun b o hP => World.cell?_of_block (a := ⟨b, o, none⟩) (hg.block b hP.1 (fun e => hP.2 e.symm))
theorem grown_trans {w w1 w2 : World} {V V1 : Value} (h : w.grownBy w1 V.ownBlock) (hn : NewOwn w V V1) (k : w1.grownBy w2 V1.ownBlock) : w.grownBy w2 V.ownBlock :=
  ⟨k.os.trans h.os, k.tape.trans h.tape, k.output.trans h.output, Nat.le_trans h.size k.size, fun j hj hne => (k.block j (Nat.lt_of_lt_of_le hj h.size) (fun e => by
    rcases hn j e.symm with h2 | h2
    · exact hne h2.symm
    · omega)).trans (h.block j hj hne)⟩
theorem newOwn_trans {w w1 : World} {V V1 V2 : Value} (h : NewOwn w V V1) (hs : w.heap.size ≤ w1.heap.size) (k : NewOwn w1 V1 V2) : NewOwn w V V2 := fun g hg => by
  rcases k g hg with h2 | h2
  · exact h g h2
  · exact .inr (by omega)

set_option maxRecDepth 100000 in
set_option maxHeartbeats 4000000 in
theorem specVars_step (N : Nat) (ih : ∀ (y : TypeX) (v V : Value) (d : List ByteArray) (B : Nat) (w : World), DV.nodesL y.cells < N → TypeAt w (Apart V w) y v → w.ownsRow B 9 1 V d.length (d.map Value.string) → d.length + y.size ≤ 4294967296 → B ≤ w.heap.size → Calls Tryd.prog 45 #[v, V] w (Grew B V (y.vars d) w)) :
    ∀ (x : TypeX) (v V : Value) (d : List ByteArray) (B : Nat) (w : World), DV.nodesL x.cells ≤ N → TypeAt w (Apart V w) x v → w.ownsRow B 9 1 V d.length (d.map Value.string) → d.length + x.size ≤ 4294967296 → B ≤ w.heap.size → Calls Tryd.prog 45 #[v, V] w (Grew B V (x.vars d) w) := by
  intro x v V d B w hn hv hown hlen hB
  obtain ⟨i0, hi, hz0, hz1, hz2⟩ := info_parts infoString
  obtain ⟨A2, c2, rfl, h2⟩ := hv
  have hcap := h2.cap
  rw [TypeX.nodes_eq] at hn
  rw [TypeX.size_eq] at hlen
  have hVlt := fun g hg => (hown.lt g hg).2
  have hb0 : Below w.heap.size w (w.alloc (.cells #[.int .i64 x.kind_, .string x.name_, .slice A2 x.args_.length c2] 26)) := (Below.refl _ _).alloc (Nat.le_refl _) _
  have hx0 := Whole.new w 26 #[.int .i64 x.kind_, .string x.name_, .slice A2 x.args_.length c2]
  have hg0 : w.grownBy (w.alloc (.cells #[.int .i64 x.kind_, .string x.name_, .slice A2 x.args_.length c2] 26)) V.ownBlock := World.grownBy_alloc _ _ _
  have hr0 : TypeRow (w.alloc (.cells #[.int .i64 x.kind_, .string x.name_, .slice A2 x.args_.length c2] 26)) (Apart V (w.alloc (.cells #[.int .i64 x.kind_, .string x.name_, .slice A2 x.args_.length c2] 26))) A2 c2 x.args_ := h2.apart hg0 (fun g hg => .inl hg)
  have hown0 := hown.alloc (.cells #[.int .i64 x.kind_, .string x.name_, .slice A2 x.args_.length c2] 26)
  obtain ⟨AV, cV, rfl, hS⟩ := strs_own hown0
  have hsz0 : (w.alloc (.cells #[.int .i64 x.kind_, .string x.name_, .slice A2 x.args_.length c2] 26)).heap.size = w.heap.size + 1 := by simp
  have hve := TypeX.vars_eq d x
  have HVE := Lib.hid hve
  have HN := Lib.hid hn
  have HX0 := Lib.hid hx0
  have HR0 := Lib.hid hr0
  have HG0 := Lib.hid hg0
  have HOW0 := Lib.hid hown0
  have HS := Lib.hid hS
  have HVLT := Lib.hid hVlt
  have HSZ := Lib.hid hsz0
  clear hve hn hx0 hr0 hg0 hown0 hS hown h2 hVlt hb0 hsz0
  by_cases hk1 : x.kind_ = 1
  · have q1 : (x.kind_ == 1) = true := by simpa using hk1
    have HK1 := Lib.hid hk1
    clear hk1
    go_enter Tryd.func45, Tryd.ntmps45
    go_wp2_with fail
    refine (specHas AV cV d x.name_ _ HS.out (by omega)).mono ?_
    rintro e w1 ⟨rfl, rfl⟩
    cases hh : has d x.name_ with
    | true =>
      have hD : d = addNew d x.name_ := (addNew_old hh).symm
      have HD := Lib.hid hD
      clear hh hD
      go_wp2
      go_loopw [1, 5] (fun ov iv wr => ∃ (k : Nat) (d1 : List ByteArray), k ≤ x.args_.length ∧ iv = .int .i64 k ∧ d1 = TypeX.varsL d (x.args_.take k) ∧ wr.ownsRow B 9 1 ov d1.length (d1.map Value.string) ∧ Whole wr w.heap.size 26 #[.int .i64 x.kind_, .string x.name_, .slice A2 x.args_.length c2] ∧ TypeRow wr (Apart ov wr) A2 c2 x.args_ ∧
          w.grownBy wr (Value.slice AV d.length cV).ownBlock ∧ w.heap.size + 1 ≤ wr.heap.size ∧ (∀ g, ov.ownBlock = some g → (Value.slice AV d.length cV).ownBlock = some g ∨ w.heap.size + 1 ≤ g)) (fun _ iv _ => x.args_.length - (Go.RowKit.intOf iv).toNat)
      case atStart => exact ⟨0, d, Nat.zero_le _, rfl, rfl, HOW0.out, HX0.out, HR0.out, HG0.out, by simp, fun g hg => .inl hg⟩
      case round =>
        obtain ⟨k, d1, hk, rfl, hd1, hown1, hx1, hr1, hg1, hsz1, hno1⟩ := hrel
        have c2f : wr.cell? ⟨w.heap.size, 2, none⟩ = some (.slice A2 x.args_.length c2) := by rw [hx1.cell]; rfl
        have hxlt := hx1.lt
        obtain ⟨A3, c3, rfl, _⟩ := strs_own hown1
        by_cases hlt : k < x.args_.length
        · obtain ⟨b, o, A2', c2', hA, hP, q0, q1', q2', k2⟩ := hr1.at_ hlt
          subst hA
          have hnx : DV.nodesL x.args_[k].cells < N := by
            have h := nodesVE_at (TypeX.rows x.args_) k (by rw [TypeX.rows_length]; exact hlt)
            rw [TypeX.rows_at x.args_ k hlt] at h
            have := HN.out
            omega
          have hst := TypeX.varsL_take x.args_ d k hlt
          have hle := TypeX.sizeL_le x.args_ (k + 1)
          have hsl := TypeX.sizeL_take x.args_ k hlt
          have hvl := TypeX.varsL_len (x.args_.take k) d
          rw [← hd1] at hst hvl
          have hlen2 : d1.length + x.args_[k].size ≤ 4294967296 := by omega
          have HST := Lib.hid hst
          have HX1 := Lib.hid hx1
          have HR1 := Lib.hid hr1
          have HG1 := Lib.hid hg1
          have HNO1 := Lib.hid hno1
          have HOW1 := Lib.hid hown1
          have HK2 := Lib.hid k2
          have hB1 : B ≤ wr.heap.size := by omega
          clear hst hle hsl hvl hd1 hx1 hr1 hg1 hno1 hown1 k2
          go_wp2_with fail
          refine (ih x.args_[k] _ _ d1 B _ hnx ⟨_, _, rfl, HK2.out⟩ HOW1.out hlen2 hB1).mono ?_
          rintro e w1 ⟨V1, rfl, hown2, hg2, hno2⟩
          obtain ⟨A4, c4, rfl, _⟩ := strs_own hown2
          have hx2 : Whole w1 w.heap.size 26 _ := (hg2.block w.heap.size HX1.out.lt (fun e => by
            rcases HNO1.out w.heap.size e.symm with h | h
            · have := HVLT.out w.heap.size h; omega
            · omega)).trans HX1.out
          have hr2 := HR1.out.apart hg2 hno2
          have hg3 := grown_trans HG1.out (fun g hg => (HNO1.out g hg).imp id fun h => by omega) hg2
          have hno3 : ∀ g, (Value.slice A4 (x.args_[k].vars d1).length c4).ownBlock = some g → (Value.slice AV d.length cV).ownBlock = some g ∨ w.heap.size + 1 ≤ g := fun g hg => by
            rcases hno2 g hg with h | h
            · exact HNO1.out g h
            · right; omega
          have hsz2 : w.heap.size + 1 ≤ w1.heap.size := Nat.le_trans hsz1 hg2.size
          have HX2 := Lib.hid hx2
          have HR2 := Lib.hid hr2
          have HG3 := Lib.hid hg3
          have HNO3 := Lib.hid hno3
          have HOW2 := Lib.hid hown2
          clear hx2 hr2 hg3 hno3 hown2 hg2 hno2
          go_wp2
          go_roundw
          case rel => exact ⟨k + 1, x.args_[k].vars d1, by omega, by go_num, HST.out.symm, HOW2.out, HX2.out, HR2.out, HG3.out, hsz2, HNO3.out⟩
          case measure => simp [Go.RowKit.intOf]; omega
        · have hkl : k = x.args_.length := by omega
          subst hkl
          rw [List.take_length] at hd1
          have hfin : x.vars d = d1 := by rw [HVE.out, hd1, if_pos HK1.out, ← HD.out]
          have HF := Lib.hid hfin
          have HG := Lib.hid hg1
          have HO := Lib.hid hown1
          have HNO := Lib.hid hno1
          clear hd1 hfin hg1 hown1 hno1 hx1 hr1
          go_wp2
          go_ret
          rw [HF.out]
          exact ⟨_, rfl, HO.out, HG.out, fun g hg => (HNO.out g hg).imp id fun h => by omega⟩

    | false =>
      obtain ⟨D1, hD1⟩ : ∃ D1, D1 = d ++ [x.name_] := ⟨_, rfl⟩
      have hD : D1 = addNew d x.name_ := by rw [addNew_new hh, hD1]
      have hDl : D1.length = d.length + 1 := by rw [hD1]; simp
      have HD := Lib.hid hD
      have HD1 := Lib.hid hD1
      have HDL := Lib.hid hDl
      have hDle : D1.length ≤ d.length + 1 := by omega
      clear hh hD hD1 hDl
      go_wp2_with (at_builtin; refine wpList_append_own_at _ rfl _ _ 60 rfl B 9 i0 (.string ByteArray.empty) 1 16 Tryd.underlying60 hi hz0 hz1 hz2 rfl (by decide) _ _ _ rfl (HOW0.out.alloc _) ⟨w.heap.size + 1, 0, none⟩ 1 1 [.string x.name_] rfl rfl (by have h := news_one (w.alloc (.cells #[.int .i64 x.kind_, .string x.name_, .slice A2 x.args_.length c2] 26)) 9 (.string x.name_); rw [HSZ.out] at h; exact h) (one_string _) (by unfold maxLen; omega) (by omega) (by simp; omega) ?_)
      intro v' w3 hown3 hgrow _ hloc
      rw [strs_map, ← HD1.out] at hown3
      have hgr := (World.grownBy_alloc (w.alloc (.cells #[.int .i64 x.kind_, .string x.name_, .slice A2 x.args_.length c2] 26)) _ _).trans hgrow
      have hno : ∀ g, v'.ownBlock = some g → (Value.slice AV d.length cV).ownBlock = some g ∨ w.heap.size + 1 ≤ g := fun g hg => by
        rcases hloc with h | h
        · left; rw [← h]; exact hg
        · right; rw [hg] at h; injection h with h; rw [h]; simp
      have hown3 : w3.ownsRow B 9 1 v' D1.length (D1.map Value.string) := by rw [HDL.out]; exact hown3
      have hx3 : Whole w3 w.heap.size 26 #[.int .i64 x.kind_, .string x.name_, .slice A2 x.args_.length c2] := (hgr.block w.heap.size HX0.out.lt (fun e => by have := HVLT.out w.heap.size e.symm; omega)).trans HX0.out
      have hr3 := HR0.out.apart hgr (fun g hg => (hno g hg).imp id fun h => by rw [HSZ.out]; exact h)
      have hg3 := HG0.out.trans hgr
      have hs3 : w.heap.size + 1 ≤ w3.heap.size := by have := hgr.size; rw [HSZ.out] at this; exact this
      have H1 := Lib.hid hown3
      have H2 := Lib.hid hx3
      have H3 := Lib.hid hr3
      have H4 := Lib.hid hg3
      have H5 := Lib.hid hno
      clear hown3 hx3 hr3 hg3 hno hgr hgrow hloc
      obtain ⟨A5, c5, rfl, _⟩ := strs_own H1.out
      go_wp2
      go_loopw [1, 5] (fun ov iv wr => ∃ (k : Nat) (d1 : List ByteArray), k ≤ x.args_.length ∧ iv = .int .i64 k ∧ d1 = TypeX.varsL D1 (x.args_.take k) ∧ wr.ownsRow B 9 1 ov d1.length (d1.map Value.string) ∧ Whole wr w.heap.size 26 #[.int .i64 x.kind_, .string x.name_, .slice A2 x.args_.length c2] ∧ TypeRow wr (Apart ov wr) A2 c2 x.args_ ∧
          w.grownBy wr (Value.slice AV d.length cV).ownBlock ∧ w.heap.size + 1 ≤ wr.heap.size ∧ (∀ g, ov.ownBlock = some g → (Value.slice AV d.length cV).ownBlock = some g ∨ w.heap.size + 1 ≤ g)) (fun _ iv _ => x.args_.length - (Go.RowKit.intOf iv).toNat)
      case atStart => exact ⟨0, D1, Nat.zero_le _, rfl, rfl, H1.out, H2.out, H3.out, H4.out, hs3, H5.out⟩
      case round =>
        obtain ⟨k, d1, hk, rfl, hd1, hown1, hx1, hr1, hg1, hsz1, hno1⟩ := hrel
        have c2f : wr.cell? ⟨w.heap.size, 2, none⟩ = some (.slice A2 x.args_.length c2) := by rw [hx1.cell]; rfl
        have hxlt := hx1.lt
        obtain ⟨A3, c3, rfl, _⟩ := strs_own hown1
        by_cases hlt : k < x.args_.length
        · obtain ⟨b, o, A2', c2', hA, hP, q0, q1', q2', k2⟩ := hr1.at_ hlt
          subst hA
          have hnx : DV.nodesL x.args_[k].cells < N := by
            have h := nodesVE_at (TypeX.rows x.args_) k (by rw [TypeX.rows_length]; exact hlt)
            rw [TypeX.rows_at x.args_ k hlt] at h
            have := HN.out
            omega
          have hst := TypeX.varsL_take x.args_ D1 k hlt
          have hle := TypeX.sizeL_le x.args_ (k + 1)
          have hsl := TypeX.sizeL_take x.args_ k hlt
          have hvl := TypeX.varsL_len (x.args_.take k) D1
          rw [← hd1] at hst hvl
          have hlen2 : d1.length + x.args_[k].size ≤ 4294967296 := by omega
          have HST := Lib.hid hst
          have HX1 := Lib.hid hx1
          have HR1 := Lib.hid hr1
          have HG1 := Lib.hid hg1
          have HNO1 := Lib.hid hno1
          have HOW1 := Lib.hid hown1
          have HK2 := Lib.hid k2
          have hB1 : B ≤ wr.heap.size := by omega
          clear hst hle hsl hvl hd1 hx1 hr1 hg1 hno1 hown1 k2
          go_wp2_with fail
          refine (ih x.args_[k] _ _ d1 B _ hnx ⟨_, _, rfl, HK2.out⟩ HOW1.out hlen2 hB1).mono ?_
          rintro e w1 ⟨V1, rfl, hown2, hg2, hno2⟩
          obtain ⟨A4, c4, rfl, _⟩ := strs_own hown2
          have hx2 : Whole w1 w.heap.size 26 _ := (hg2.block w.heap.size HX1.out.lt (fun e => by
            rcases HNO1.out w.heap.size e.symm with h | h
            · have := HVLT.out w.heap.size h; omega
            · omega)).trans HX1.out
          have hr2 := HR1.out.apart hg2 hno2
          have hg3 := grown_trans HG1.out (fun g hg => (HNO1.out g hg).imp id fun h => by omega) hg2
          have hno3 : ∀ g, (Value.slice A4 (x.args_[k].vars d1).length c4).ownBlock = some g → (Value.slice AV d.length cV).ownBlock = some g ∨ w.heap.size + 1 ≤ g := fun g hg => by
            rcases hno2 g hg with h | h
            · exact HNO1.out g h
            · right; omega
          have hsz2 : w.heap.size + 1 ≤ w1.heap.size := Nat.le_trans hsz1 hg2.size
          have HX2 := Lib.hid hx2
          have HR2 := Lib.hid hr2
          have HG3 := Lib.hid hg3
          have HNO3 := Lib.hid hno3
          have HOW2 := Lib.hid hown2
          clear hx2 hr2 hg3 hno3 hown2 hg2 hno2
          go_wp2
          go_roundw
          case rel => exact ⟨k + 1, x.args_[k].vars d1, by omega, by go_num, HST.out.symm, HOW2.out, HX2.out, HR2.out, HG3.out, hsz2, HNO3.out⟩
          case measure => simp [Go.RowKit.intOf]; omega
        · have hkl : k = x.args_.length := by omega
          subst hkl
          rw [List.take_length] at hd1
          have hfin : x.vars d = d1 := by rw [HVE.out, hd1, if_pos HK1.out, ← HD.out]
          have HF := Lib.hid hfin
          have HG := Lib.hid hg1
          have HO := Lib.hid hown1
          have HNO := Lib.hid hno1
          clear hd1 hfin hg1 hown1 hno1 hx1 hr1
          go_wp2
          go_ret
          rw [HF.out]
          exact ⟨_, rfl, HO.out, HG.out, fun g hg => (HNO.out g hg).imp id fun h => by omega⟩

  · have q1 : (x.kind_ == 1) = false := by simpa using hk1
    have HK1 := Lib.hid hk1
    clear hk1
    go_enter Tryd.func45, Tryd.ntmps45
    go_wp2
    go_loopw [1, 5] (fun ov iv wr => ∃ (k : Nat) (d1 : List ByteArray), k ≤ x.args_.length ∧ iv = .int .i64 k ∧ d1 = TypeX.varsL d (x.args_.take k) ∧ wr.ownsRow B 9 1 ov d1.length (d1.map Value.string) ∧ Whole wr w.heap.size 26 #[.int .i64 x.kind_, .string x.name_, .slice A2 x.args_.length c2] ∧ TypeRow wr (Apart ov wr) A2 c2 x.args_ ∧
        w.grownBy wr (Value.slice AV d.length cV).ownBlock ∧ w.heap.size + 1 ≤ wr.heap.size ∧ (∀ g, ov.ownBlock = some g → (Value.slice AV d.length cV).ownBlock = some g ∨ w.heap.size + 1 ≤ g)) (fun _ iv _ => x.args_.length - (Go.RowKit.intOf iv).toNat)
    case atStart => exact ⟨0, d, Nat.zero_le _, rfl, rfl, HOW0.out, HX0.out, HR0.out, HG0.out, by simp, fun g hg => .inl hg⟩
    case round =>
      obtain ⟨k, d1, hk, rfl, hd1, hown1, hx1, hr1, hg1, hsz1, hno1⟩ := hrel
      have c2f : wr.cell? ⟨w.heap.size, 2, none⟩ = some (.slice A2 x.args_.length c2) := by rw [hx1.cell]; rfl
      have hxlt := hx1.lt
      obtain ⟨A3, c3, rfl, _⟩ := strs_own hown1
      by_cases hlt : k < x.args_.length
      · obtain ⟨b, o, A2', c2', hA, hP, q0, q1', q2', k2⟩ := hr1.at_ hlt
        subst hA
        have hnx : DV.nodesL x.args_[k].cells < N := by
          have h := nodesVE_at (TypeX.rows x.args_) k (by rw [TypeX.rows_length]; exact hlt)
          rw [TypeX.rows_at x.args_ k hlt] at h
          have := HN.out
          omega
        have hst := TypeX.varsL_take x.args_ d k hlt
        have hle := TypeX.sizeL_le x.args_ (k + 1)
        have hsl := TypeX.sizeL_take x.args_ k hlt
        have hvl := TypeX.varsL_len (x.args_.take k) d
        rw [← hd1] at hst hvl
        have hlen2 : d1.length + x.args_[k].size ≤ 4294967296 := by omega
        have HST := Lib.hid hst
        have HX1 := Lib.hid hx1
        have HR1 := Lib.hid hr1
        have HG1 := Lib.hid hg1
        have HNO1 := Lib.hid hno1
        have HOW1 := Lib.hid hown1
        have HK2 := Lib.hid k2
        have hB1 : B ≤ wr.heap.size := by omega
        clear hst hle hsl hvl hd1 hx1 hr1 hg1 hno1 hown1 k2
        go_wp2_with fail
        refine (ih x.args_[k] _ _ d1 B _ hnx ⟨_, _, rfl, HK2.out⟩ HOW1.out hlen2 hB1).mono ?_
        rintro e w1 ⟨V1, rfl, hown2, hg2, hno2⟩
        obtain ⟨A4, c4, rfl, _⟩ := strs_own hown2
        have hx2 : Whole w1 w.heap.size 26 _ := (hg2.block w.heap.size HX1.out.lt (fun e => by
          rcases HNO1.out w.heap.size e.symm with h | h
          · have := HVLT.out w.heap.size h; omega
          · omega)).trans HX1.out
        have hr2 := HR1.out.apart hg2 hno2
        have hg3 := grown_trans HG1.out (fun g hg => (HNO1.out g hg).imp id fun h => by omega) hg2
        have hno3 : ∀ g, (Value.slice A4 (x.args_[k].vars d1).length c4).ownBlock = some g → (Value.slice AV d.length cV).ownBlock = some g ∨ w.heap.size + 1 ≤ g := fun g hg => by
          rcases hno2 g hg with h | h
          · exact HNO1.out g h
          · right; omega
        have hsz2 : w.heap.size + 1 ≤ w1.heap.size := Nat.le_trans hsz1 hg2.size
        have HX2 := Lib.hid hx2
        have HR2 := Lib.hid hr2
        have HG3 := Lib.hid hg3
        have HNO3 := Lib.hid hno3
        have HOW2 := Lib.hid hown2
        clear hx2 hr2 hg3 hno3 hown2 hg2 hno2
        go_wp2
        go_roundw
        case rel => exact ⟨k + 1, x.args_[k].vars d1, by omega, by go_num, HST.out.symm, HOW2.out, HX2.out, HR2.out, HG3.out, hsz2, HNO3.out⟩
        case measure => simp [Go.RowKit.intOf]; omega
      · have hkl : k = x.args_.length := by omega
        subst hkl
        rw [List.take_length] at hd1
        have hfin : x.vars d = d1 := by rw [HVE.out, hd1, if_neg HK1.out]
        have HF := Lib.hid hfin
        have HG := Lib.hid hg1
        have HO := Lib.hid hown1
        have HNO := Lib.hid hno1
        clear hd1 hfin hg1 hown1 hno1 hx1 hr1
        go_wp2
        go_ret
        rw [HF.out]
        exact ⟨_, rfl, HO.out, HG.out, fun g hg => (HNO.out g hg).imp id fun h => by omega⟩
theorem specVarsAll : ∀ (N : Nat) (x : TypeX) (v V : Value) (d : List ByteArray) (B : Nat) (w : World), DV.nodesL x.cells ≤ N → TypeAt w (Apart V w) x v → w.ownsRow B 9 1 V d.length (d.map Value.string) → d.length + x.size ≤ 4294967296 → B ≤ w.heap.size → Calls Tryd.prog 45 #[v, V] w (Grew B V (x.vars d) w)
  | 0 => specVars_step 0 (fun _ _ _ _ _ _ h => absurd h (Nat.not_lt_zero _))
  | N + 1 => specVars_step (N + 1) (fun y v V d B w h => specVarsAll N y v V d B w (Nat.le_of_lt_succ h))

end Go.Proofs.YtngbilblddngcaaDoor

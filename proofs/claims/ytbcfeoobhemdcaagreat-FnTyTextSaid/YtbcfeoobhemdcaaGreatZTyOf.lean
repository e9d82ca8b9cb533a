/- The type that an expression denotes, right or not: the reference model's l5Ty. -/
import Derived.Test.YtbcfeoobhemdcaaGreatZTySx
import Derived.Test.YtbcfeoobhemdcaaGreatQ1
namespace Go.Proofs.YtbcfeoobhemdcaaGreat
open Go.RowKit Go.Lib

def atomTy (a : ByteArray) : TypeX := if a.data.toList.headD 0 = 39 then .mk 1 (a.extract 1 a.size) [] else .mk 2 a []
def listTy (l : List SX) (ts : List TypeX) : TypeX :=
  match l with
  | x0 :: x1 :: _ => if x0.atom = ⟨#[97, 115, 115, 111, 99]⟩ ∧ l.length = 3 ∧ x1.atom ≠ ⟨#[]⟩ then .mk 3 x1.atom (ts.drop 1) else if x0.atom = ⟨#[100, 121, 110]⟩ ∧ l.length = 2 ∧ x1.atom ≠ ⟨#[]⟩ then .mk 4 x1.atom [] else .mk 2 x0.atom ts
  | _ => .mk 0 ⟨#[]⟩ []
mutual
def SX.ty : SX → TypeX
  | .mk a l => if a = ⟨#[]⟩ then listTy l ((SX.tyL l).drop 1) else atomTy a
def SX.tyL : List SX → List TypeX
  | [] => []
  | x :: r => x.ty :: SX.tyL r
end
theorem tyL_len : ∀ l : List SX, (SX.tyL l).length = l.length
  | [] => by rw [SX.tyL]; rfl
  | x :: r => by rw [SX.tyL, List.length_cons, List.length_cons, tyL_len r]
theorem tyL_take : ∀ (l : List SX) (j : Nat) (h : j < l.length), SX.tyL (l.take (j + 1)) = SX.tyL (l.take j) ++ [l[j].ty]
  | x :: r, 0, _ => by simp [SX.tyL]
  | x :: r, j + 1, h => by
    rw [List.take_succ_cons, List.take_succ_cons, SX.tyL, SX.tyL, tyL_take r j (by simpa using h)]
    simp

/-- All of a row but its first type. -/
theorem TypeRow.tail {w : World} {P : Nat → Prop} {b o c : Nat} {x : TypeX} {r : List TypeX} (h : TypeRow w P (some ⟨b, o, none⟩) c (x :: r)) : TypeRow w P (some ⟨b, o + 3, none⟩) (c - 1) r := by
  have hcap := h.cap
  rw [List.length_cons] at hcap
  obtain ⟨A, cap, e, h1, h2, h3⟩ := RdV_row.1 h
  injection e with e1 _ e3
  subst e1 e3
  rw [TypeX.rows] at h3
  rcases h3 with h3 | ⟨b', o', hA, hP, vs, hE, hc⟩
  · cases h3
  · injection hA with hA
    injection hA with hb ho
    subst hb ho
    rw [RdVE] at hE
    obtain ⟨v1, v2, rfl, hk, hs, hr⟩ := hE
    have hl1 : v1.length = 3 := by rw [RdVs_length hs, hk]
    refine RdV_row.2 ⟨_, _, by rw [TypeX.rows_length], by rw [TypeX.rows_length]; omega, by omega, .inr ⟨b, o + 3, rfl, hP, v2, hr, fun i v hi => ?_⟩⟩
    have h := hc (3 + i) v (by rw [List.getElem?_append_right (by omega), hl1, Nat.add_sub_cancel_left]; exact hi)
    rw [Nat.add_assoc]
    exact h
/-- What a maker of a type leaves. -/
def TyMade (y : TypeX) (w : World) (e : Ending) (w' : World) : Prop := ∃ A c, e = .returned (.agg #[.int .i64 y.kind_, .string y.name_, .slice A y.args_.length c]) ∧ TypeRow w' (New w.heap.size w'.heap.size) A c y.args_ ∧ Below w.heap.size w w'

theorem atomTy_var {a : ByteArray} (h0 : 0 < a.size) (h : a[0].toNat = 39) : atomTy a = .mk 1 (a.extract 1 a.size) [] := by
  have e : a.data.toList.headD 0 = a[0] := by
    obtain ⟨⟨d⟩⟩ := a
    cases d with
    | nil => exact absurd h0 (by decide)
    | cons x r => rfl
  have h9 : a[0] = 39 := UInt8.toNat_inj.1 h
  rw [atomTy, e, if_pos h9]
theorem atomTy_con {a : ByteArray} (h0 : 0 < a.size) (h : a[0].toNat ≠ 39) : atomTy a = .mk 2 a [] := by
  have e : a.data.toList.headD 0 = a[0] := by
    obtain ⟨⟨d⟩⟩ := a
    cases d with
    | nil => exact absurd h0 (by decide)
    | cons x r => rfl
  rw [atomTy, e, if_neg fun h9 => h (by rw [h9]; rfl)]
/-- The ending: the result's cells written. -/
theorem tyDone {w w3 : World} {k : Int} {s : ByteArray} {l : List TypeX} {A : Option Addr} {c n : Nat} {u v x : Value} (hn : n = l.length) (hx : Whole w3 (w.heap.size + 1) 26 #[u, v, x]) (hb : Below w.heap.size w w3) (hr : TypeRow w3 (fun b => New w.heap.size w3.heap.size b ∧ b ≠ w.heap.size + 1) A c l) :
    ∀ w4, w4 = ((w3.setCell ⟨w.heap.size + 1, 0, none⟩ (.int .i64 k)).setCell ⟨w.heap.size + 1, 1, none⟩ (.string s)).setCell ⟨w.heap.size + 1, 2, none⟩ (.slice A n c) →
      w4.cell? ⟨w.heap.size + 1, 0, none⟩ = some (.int .i64 k) ∧ w4.cell? ⟨w.heap.size + 1, 1, none⟩ = some (.string s) ∧ w4.cell? ⟨w.heap.size + 1, 2, none⟩ = some (.slice A n c) ∧ TyMade (.mk k s l) w (.returned (.agg #[.int .i64 k, .string s, .slice A n c])) w4 := by
  subst hn
  intro w4 h4
  have hw : Whole w4 (w.heap.size + 1) 26 #[.int .i64 k, .string s, .slice A l.length c] := by
    have h := ((hx.set_ 0 (.int .i64 k)).set_ 1 (.string s)).set_ 2 (.slice A l.length c)
    rw [← h4] at h
    simpa using h
  have hbut : But (w.heap.size + 1) w3 w4 := by rw [h4]; exact ((But.set_ _ _ 0 _).trans (But.set_ _ _ 1 _)).trans (But.set_ _ _ 2 _)
  obtain ⟨e0, e1, e2⟩ := cells3 hw
  exact ⟨e0, e1, e2, A, c, rfl, hr.frame (fun b h => ⟨h.1.1, Nat.lt_of_lt_of_le h.1.2 hbut.size⟩) (fun b o h => World.cell?_of_block (a := ⟨b, o, none⟩) (hbut.block b h.1.2 h.2)), hb.trans (hbut.to_below (by omega) hb.size)⟩

theorem varP (s : ByteArray) (w : World) : Calls Tryz.prog 68 #[.string s] w fun e w' => (∃ A c, e = .returned (.agg #[.int .i64 1, .string s, .slice A 0 c]) ∧ c ≤ 9223372036854775807) ∧ Below w.heap.size w w' := by
  refine (varC (fun _ => False) s w).mono ?_
  rintro e w' ⟨⟨V, rfl, ht⟩, hb⟩
  obtain ⟨A, c, rfl, hr⟩ := ht.row (fun b h => h.elim)
  exact ⟨⟨A, c, rfl, hr.cap.2⟩, hb⟩
theorem conP (s : ByteArray) (w : World) : Calls Tryz.prog 45 #[.string s, .slice none 0 0] w fun e w' => (∃ A c, e = .returned (.agg #[.int .i64 2, .string s, .slice A 0 c]) ∧ c ≤ 9223372036854775807) ∧ Below w.heap.size w w' := by
  refine (conC (fun _ => False) s none 0 [] w (by decide) (TypeRow.nil _ _ _ _ (by decide))).mono ?_
  rintro e w' ⟨⟨V, rfl, ht⟩, hb⟩
  obtain ⟨A, c, rfl, hr⟩ := ht.row (fun b h => h.elim)
  exact ⟨⟨A, c, rfl, hr.cap.2⟩, hb⟩
set_option maxRecDepth 100000 in
set_option maxHeartbeats 2000000 in
theorem specTy_atom (a : ByteArray) (l : List SX) (A : Option Addr) (c : Nat) (w : World) (h0 : 0 < a.size) : Calls Tryz.prog 32 #[.agg #[.string a, .slice A l.length c]] w (TyMade (atomTy a) w) := by
  have he : a.toList.isEmpty = false := by
    rw [ByteArray.toList_eq]
    obtain ⟨⟨d⟩⟩ := a
    cases d with
    | nil => exact absurd h0 (by decide)
    | cons x r => rfl
  have hb0 : Below w.heap.size w ((w.alloc (.cells #[.string a, .slice A l.length c] 33)).alloc (.cells zeroT 26)) := ((Below.refl _ _).alloc (Nat.le_refl _) _).alloc (by simp) _
  have hrx : Whole ((w.alloc (.cells #[.string a, .slice A l.length c] 33)).alloc (.cells zeroT 26)) (w.heap.size + 1) 26 zeroT := by
    have h := Whole.new (w.alloc (.cells #[.string a, .slice A l.length c] 33)) 26 zeroT
    rw [World.size_alloc] at h
    exact h
  have HB0 := Lib.hid hb0
  have HRX := Lib.hid hrx
  clear hb0 hrx
  by_cases h39 : a[0].toNat = 39
  · rw [atomTy_var h0 h39]
    have hd : ((a[0].toNat : Int) == 39) = true := by rw [h39]; rfl
    clear h39
    go_enter Tryz.func32, Tryz.ntmps32
    go_wp2_with fail
    refine (varP _ _).mono ?_
    rintro e w3 ⟨⟨A3, c3, rfl, hc3⟩, hb3⟩
    have hrx := HRX.out.below hb3 HRX.out.lt
    have HE := Lib.hid (tyDone (k := 1) (s := a.extract 1 a.size) (l := []) (n := 0) rfl hrx (HB0.out.trans (hb3.mono HB0.out.size)) (TypeRow.nil _ _ c3 A3 hc3))
    obtain ⟨r0, r1, r2⟩ := cells3 hrx
    have rf0 := hrx.frozen 0
    have rf1 := hrx.frozen 1
    have rf2 := hrx.frozen 2
    have hrl := hrx.lt
    clear hrx hb3
    go_wp2
    obtain ⟨e0, e1, e2, e3⟩ := HE.out _ rfl
    exact bodyPost_ret (v := .agg #[.int .i64 1, .string (a.extract 1 a.size), .slice A3 0 c3]) (by simp [results, Tryz.results32, go_sem, e0, e1, e2]) rfl e3
  · rw [atomTy_con h0 h39]
    have hd : ((a[0].toNat : Int) == 39) = false := by simp; omega
    clear h39
    go_enter Tryz.func32, Tryz.ntmps32
    go_wp2_with fail
    refine (conP a _).mono ?_
    rintro e w3 ⟨⟨A3, c3, rfl, hc3⟩, hb3⟩
    have hrx := HRX.out.below hb3 HRX.out.lt
    have HE := Lib.hid (tyDone (k := 2) (s := a) (l := []) (n := 0) rfl hrx (HB0.out.trans (hb3.mono HB0.out.size)) (TypeRow.nil _ _ c3 A3 hc3))
    obtain ⟨r0, r1, r2⟩ := cells3 hrx
    have rf0 := hrx.frozen 0
    have rf1 := hrx.frozen 1
    have rf2 := hrx.frozen 2
    have hrl := hrx.lt
    clear hrx hb3
    go_wp2
    obtain ⟨e0, e1, e2, e3⟩ := HE.out _ rfl
    exact bodyPost_ret (v := .agg #[.int .i64 2, .string a, .slice A3 0 c3]) (by simp [results, Tryz.results32, go_sem, e0, e1, e2]) rfl e3
set_option maxRecDepth 100000 in
set_option maxHeartbeats 2000000 in
theorem specTy_short (l : List SX) (A : Option Addr) (c : Nat) (w : World) (h2 : l.length < 2) : Calls Tryz.prog 32 #[.agg #[.string ⟨#[]⟩, .slice A l.length c]] w (TyMade (.mk 0 ⟨#[]⟩ []) w) := by
  have hb0 : Below w.heap.size w ((w.alloc (.cells #[.string ⟨#[]⟩, .slice A l.length c] 33)).alloc (.cells zeroT 26)) := ((Below.refl _ _).alloc (Nat.le_refl _) _).alloc (by simp) _
  have HB0 := Lib.hid hb0
  clear hb0
  go_enter Tryz.func32, Tryz.ntmps32
  go_wp2
  exact bodyPost_ret (v := .agg #[.int .i64 0, .string ⟨#[]⟩, .slice none 0 0]) (by simp [results, Tryz.results32, go_sem]) rfl ⟨none, 0, rfl, TypeRow.nil _ _ 0 none (by decide), HB0.out⟩
end Go.Proofs.YtbcfeoobhemdcaaGreat

/- The laws' marks over rows of Type. -/
import Derived.Test.YtenjlgcdbnddjaaTypeD
import Derived.Test.YtenjlgcdbnddjaaDvMark
import Derived.Test.YtenjlgcdbnddjaaProg
import Derived.Outline
namespace Go.Proofs.Ytenjlgcdbnddjaa
open Go.RowKit Go.Lib

def MarkTypeS (N : Nat) : Prop := ∀ (l : List TypeX) (A : Option Addr) (c k B : Nat) (bs : List Nat) (w : World), DV.nodesE (TypeX.rows l) ≤ N → OwV w B (.row 26 3 (TypeX.rows l)) (.slice A l.length c) bs → bs.Nodup → 0 < k → k + DV.cntE (TypeX.rows l) ≤ 4294967296 →
  Calls Try.prog 54 #[.slice A l.length c, .int .i64 k] w fun e w' => e = .returned (.int .i64 (k + DV.cntE (TypeX.rows l) : Nat)) ∧ OwV w' B (.row 26 3 (vmkE k (TypeX.rows l))) (.slice A l.length c) bs ∧ ButV bs w w'

set_option maxRecDepth 100000 in
set_option maxHeartbeats 2000000 in
theorem markTypeS_step (N : Nat) (ihTypeS : MarkTypeS N) : MarkTypeS (N + 1) := by
  intro l A c k B bs w hn hO hnd hk0 hkn
  have hcap : l.length ≤ 9223372036854775807 := by
    have h := OwV_read (P := fun _ => True) _ (fun _ _ => trivial) hO
    obtain ⟨_, _, _, h1, h2⟩ := h.shape
    rw [TypeX.rows_length] at h1
    omega
  have HO := Lib.hid hO
  have HND := Lib.hid hnd
  have HN := Lib.hid hn
  clear hO hnd hn
  go_enter Try.func54, Try.ntmps54
  go_wp2
  go_loopw [1, 5] (fun kv iv wr => ∃ i kk : Nat, i ≤ l.length ∧ iv = .int .i64 i ∧ kk = k + DV.cntE ((TypeX.rows l).take i) ∧ kv = .int .i64 kk ∧ OwV wr B (.row 26 3 (vmkE k ((TypeX.rows l).take i) ++ (TypeX.rows l).drop i)) (.slice A l.length c) bs ∧ ButV bs w wr) (fun _ iv _ => l.length - (Go.RowKit.intOf iv).toNat)
  case atStart => exact ⟨0, k, Nat.zero_le _, rfl, by simp [DV.cntE], rfl, by simpa [vmkE] using HO.out, ButV.refl _ _⟩
  case round =>
    obtain ⟨i, kk, hi, rfl, hkke, rfl, hO, hb⟩ := hrel
    by_cases hlt : i < l.length
    · have hil : i < (TypeX.rows l).length := by rw [TypeX.rows_length]; exact hlt
      have hst := cntE_step (TypeX.rows l) i hil
      have hle := cntE_part (TypeX.rows l) (i + 1)
      rw [TypeX.rows_at l i hlt hil] at hst
      have hcl : DV.cntL l[i].cells = 1 + 1 + DV.cntE (TypeX.rows l[i].args_) := by rw [TypeX.cells_eq]; simp only [DV.cntL, DV.cnt]; omega
      rw [hcl] at hst
      have hbound : kk + (1 + 1 + DV.cntE (TypeX.rows l[i].args_)) ≤ 4294967296 := by omega
      have hkpos : 0 < kk := by omega
      have hnx := nodesVE_at (TypeX.rows l) i hil
      rw [TypeX.rows_at l i hlt hil, TypeX.cells_eq] at hnx
      simp only [DV.nodesL, DV.nodes] at hnx
      have HNX := Lib.hid (show DV.nodesE (TypeX.rows l[i].args_) ≤ N by have := HN.out; omega)
      clear hnx
      have HST := Lib.hid hst
      have HKE := Lib.hid hkke
      rw [List.drop_eq_getElem_cons hil, TypeX.rows_at l i hlt hil, TypeX.cells_eq] at hO
      have hpl : (vmkE k ((TypeX.rows l).take i)).length = i := by rw [vmkE_length, List.length_take]; omega
      obtain ⟨P, hP⟩ : ∃ P, P = vmkE k ((TypeX.rows l).take i) := ⟨_, rfl⟩
      obtain ⟨Q, hQ⟩ : ∃ Q, Q = (TypeX.rows l).drop (i + 1) := ⟨_, rfl⟩
      rw [← hP, ← hQ] at hO
      rw [← hP] at hpl
      have HP := Lib.hid hP
      have HQ := Lib.hid hQ
      have HPL := Lib.hid hpl
      clear hP hQ hpl hst hle hcl hkke
      obtain ⟨g, rfl, hgb⟩ := OwV_some hO (by rw [List.length_append, List.length_cons]; omega)
      have hglt := (OwV_lt _ hO g hgb).2
      have HGB := Lib.hid hgb
      clear hgb
      obtain ⟨vd2, _, q2, _, od2, _⟩ := OwV_focus hO HND.out HPL.out (c := 2) rfl
      obtain ⟨A2, c2, rfl⟩ := OwV_shape od2 (TypeX.rows_length _)
      clear od2
      have hi0 : (0 : Int) ≤ i := by omega
      obtain ⟨p0, f0, s0⟩ := OwV_plain_at hO HND.out HPL.out (c := 0) rfl
      obtain ⟨p1, f1, s1⟩ := OwV_plain_at hO HND.out HPL.out (c := 1) rfl
      rw [Nat.add_zero] at p0 f0
      obtain ⟨k1, ek1⟩ : ∃ q : Nat, q = kk + 1 := ⟨_, rfl⟩
      have Ik1 := Lib.hid (show ((kk : Nat) : Int) + 1 = ((k1 : Nat) : Int) by omega)
      have Kk1 := Lib.hid ek1
      have bk1 : k1 + (1 + DV.cntE (TypeX.rows l[i].args_)) ≤ 4294967296 := by omega
      have pk1 : 0 < k1 := by omega
      clear ek1
      go_wp2_with fail
      rw [Ik1.out]
      refine calls_gen (fun W => OwV W B (.row 26 3 (P ++ [.pl (.int .i64 (kk : Nat)), .pl (.string l[i].name_), .row 26 3 (TypeX.rows l[i].args_)] :: Q)) (.slice (some ⟨g, 0, none⟩) l.length c) bs ∧ ButV bs w W ∧ g < W.heap.size ∧ W.cell? ⟨g, i * 3 + 2, none⟩ = some (.slice A2 l[i].args_.length c2)) ⟨(s0 (.int .i64 (kk : Nat))), (hb.set_ HGB.out _ _), by simpa using hglt, ((World.cell?_setCell_other _ _ _ _ (fun e => by injection e with _ e; omega)).trans q2)⟩ ?_
      clear hO hb hglt p0 f0 s0 p1 f1 s1 q2
      rintro W1 ⟨hO, hb, hglt, q2⟩
      refine (markText k1 _ (by omega) (by omega)).mono ?_
      rintro e w2 ⟨rfl, hb1⟩
      have hO := OwV_below hO hb1
      have hb := hb.trans (ButV.of_below hb1)
      have q2 := (hb1.cell (p := ⟨g, i * 3 + 2, none⟩) hglt).trans q2
      have hglt := Nat.lt_of_lt_of_le hglt hb1.size
      clear hb1
      obtain ⟨p1, f1, s1⟩ := OwV_plain_at hO HND.out HPL.out (c := 1) rfl
      obtain ⟨k2, ek2⟩ : ∃ q : Nat, q = k1 + 1 := ⟨_, rfl⟩
      have Ik2 := Lib.hid (show ((k1 : Nat) : Int) + 1 = ((k2 : Nat) : Int) by omega)
      have Kk2 := Lib.hid ek2
      have bk2 : k2 + (DV.cntE (TypeX.rows l[i].args_)) ≤ 4294967296 := by omega
      have pk2 : 0 < k2 := by omega
      clear ek2
      go_wp2_with fail
      rw [Ik2.out]
      refine calls_gen (fun W => OwV W B (.row 26 3 (P ++ [.pl (.int .i64 (kk : Nat)), .pl (.string (mark k1)), .row 26 3 (TypeX.rows l[i].args_)] :: Q)) (.slice (some ⟨g, 0, none⟩) l.length c) bs ∧ ButV bs w W ∧ g < W.heap.size ∧ W.cell? ⟨g, i * 3 + 2, none⟩ = some (.slice A2 l[i].args_.length c2)) ⟨(s1 (.string (mark k1))), (hb.set_ HGB.out _ _), by simpa using hglt, ((World.cell?_setCell_other _ _ _ _ (fun e => by injection e with _ e; omega)).trans q2)⟩ ?_
      clear hO hb hglt p1 f1 s1 q2
      rintro W3 ⟨hO, hb, hglt, q2⟩
      obtain ⟨vd, bd, hcd, _, hod, hndd, hgd, hsub, hput, _⟩ := OwV_focus hO HND.out HPL.out (c := 2) rfl
      obtain rfl : vd = .slice A2 l[i].args_.length c2 := Option.some.inj (hcd.symm.trans q2)
      clear hcd
      obtain ⟨k3, ek3⟩ : ∃ q : Nat, q = k2 + DV.cntE (TypeX.rows l[i].args_) := ⟨_, rfl⟩
      have Kk3 := Lib.hid ek3
      have bk3 : k3 + (0) ≤ 4294967296 := by omega
      have pk3 : 0 < k3 := by omega
      have ak3 : k2 + DV.cntE (TypeX.rows l[i].args_) ≤ 4294967296 := by omega
      clear ek3
      refine (ihTypeS l[i].args_ A2 c2 k2 B bd _ (by have := HNX.out; omega) hod hndd (by omega) (by omega)).mono ?_
      rintro e w4 ⟨rfl, hO3, hb3⟩
      rw [← Kk3.out]
      have hO := hput w4 _ hO3 (fun b hm hn => hb3.block b (OwV_lt _ hO b hm).2 hn)
      have hb := hb.trans (hb3.more hsub)
      have hglt := Nat.lt_of_lt_of_le hglt hb3.size
      have hO : OwV w4 B (.row 26 3 (P ++ [.pl (.int .i64 (kk : Nat)), .pl (.string (mark k1)), .row 26 3 (vmkE k2 (TypeX.rows l[i].args_))] :: Q)) (.slice (some ⟨g, 0, none⟩) l.length c) bs := hO
      clear hO3 hb3 hput hsub hgd hndd hod q2
      have hlist : P ++ [.pl (.int .i64 (kk : Nat)), .pl (.string (mark k1)), .row 26 3 (vmkE k2 (TypeX.rows l[i].args_))] :: Q = vmkE k ((TypeX.rows l).take (i + 1)) ++ (TypeX.rows l).drop (i + 1) := by
        rw [vmkE_take _ k i hil, TypeX.rows_at l i hlt hil, TypeX.cells_eq, ← HKE.out, ← HP.out, ← HQ.out, List.append_assoc]
        have yk3 := Kk3.out
        subst yk3
        have yk2 := Kk2.out
        subst yk2
        have yk1 := Kk1.out
        subst yk1
        simp only [vmkL, DV.vmk, vmkU, DV.cnt, List.singleton_append]
      have hfin := hO
      have hbf := hb
      have hfin2 : OwV _ B (.row 26 3 (P ++ [.pl (.int .i64 (kk : Nat)), .pl (.string (mark k1)), .row 26 3 (vmkE k2 (TypeX.rows l[i].args_))] :: Q)) (.slice (some ⟨g, 0, none⟩) l.length c) bs := hfin
      rw [hlist] at hfin2
      have HF := Lib.hid hfin2
      have hke : k3 = k + DV.cntE ((TypeX.rows l).take (i + 1)) := by rw [HST.out]; have := HKE.out; have := Kk1.out; have := Kk2.out; have := Kk3.out; omega
      have HKF := Lib.hid hke
      clear hlist hfin hfin2 hke hO
      go_wp2
      go_roundw
      case rel => exact ⟨i + 1, k3, by omega, by go_num, HKF.out, int_of (by omega), HF.out, hbf⟩
      case measure => simp [Go.RowKit.intOf]; omega
    · have hil : i = l.length := by omega
      subst hil
      rw [List.take_of_length_le (by rw [TypeX.rows_length]; exact Nat.le_refl _)] at hkke
      rw [List.take_of_length_le (by rw [TypeX.rows_length]; exact Nat.le_refl _), List.drop_of_length_le (by rw [TypeX.rows_length]; exact Nat.le_refl _), List.append_nil] at hO
      subst hkke
      have HF := Lib.hid hO
      clear hO
      go_wp2
      go_ret
      exact ⟨rfl, HF.out, hb⟩

theorem markRows_Type : ∀ N, MarkTypeS N
  | 0 => by
    intro l A c k B bs w hn hO hnd hk0 hkn
    have hc := nodesVE_count (TypeX.rows l)
    rw [TypeX.rows_length] at hc
    have hl : l = [] := List.eq_nil_of_length_eq_zero (by omega)
    subst hl
    have HO := Lib.hid hO
    clear hO
    go_enter Try.func54, Try.ntmps54
    go_wp2
    refine wp_loop_rounds 1 ?_
    rw [rounds_succ]
    go_wp2
    go_ret
    exact ⟨rfl, HO.out, ButV.refl _ _⟩
  | N + 1 => markTypeS_step N (markRows_Type N)
theorem markTypeS (l : List TypeX) (A : Option Addr) (c k B : Nat) (bs : List Nat) (w : World) (hO : OwV w B (.row 26 3 (TypeX.rows l)) (.slice A l.length c) bs) (hnd : bs.Nodup) (hk0 : 0 < k) (hk : k + DV.cntE (TypeX.rows l) ≤ 4294967296) :
    Calls Try.prog 54 #[.slice A l.length c, .int .i64 k] w fun e w' => e = .returned (.int .i64 (k + DV.cntE (TypeX.rows l) : Nat)) ∧ OwV w' B (.row 26 3 (vmkE k (TypeX.rows l))) (.slice A l.length c) bs ∧ ButV bs w w' := (markRows_Type (DV.nodesE (TypeX.rows l))) l A c k B bs w (Nat.le_refl _) hO hnd hk0 hk
end Go.Proofs.Ytenjlgcdbnddjaa

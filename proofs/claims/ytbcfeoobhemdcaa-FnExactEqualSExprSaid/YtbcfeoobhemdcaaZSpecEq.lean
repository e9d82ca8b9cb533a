/- The reference model: EqualSExpr. -/
import Derived.Test.YtbcfeoobhemdcaaZSpecSx
import Derived.Lib.QuietBelow
import Derived.BigQuiet
namespace Go.Proofs.Ytbcfeoobhemdcaa
open Go.RowKit Go.Lib

mutual
def SX.same : SX → SX → Bool
  | .mk a l, .mk b m => decide (a = b) && decide (l.length = m.length) && SX.sameL l m
def SX.sameL : List SX → List SX → Bool
  | [], _ => true
  | _ :: _, [] => true
  | x :: r, y :: s => x.same y && SX.sameL r s
end
theorem SX.same_eq (x y : SX) : x.same y = (decide (x.atom = y.atom) && decide (x.list.length = y.list.length) && SX.sameL x.list y.list) := by cases x; cases y; rw [SX.same]; rfl
theorem SX.sameL_take : ∀ (l m : List SX) (j : Nat) (h : j < l.length) (h' : j < m.length), SX.sameL (l.take (j + 1)) (m.take (j + 1)) = (SX.sameL (l.take j) (m.take j) && l[j].same m[j])
  | x :: r, y :: s, 0, _, _ => by simp [SX.sameL]
  | x :: r, y :: s, j + 1, h, h' => by
    have := SX.sameL_take r s j (by simpa using h) (by simpa using h')
    rw [List.take_succ_cons, List.take_succ_cons, List.take_succ_cons, List.take_succ_cons, SX.sameL, SX.sameL, this]
    simp [Bool.and_assoc]
theorem SX.sameL_false : ∀ (l m : List SX) (j : Nat) (h : j < l.length) (h' : j < m.length), l[j].same m[j] = false → SX.sameL l m = false
  | x :: r, y :: s, 0, _, _, hf => by rw [SX.sameL]; simp at hf; rw [hf]; rfl
  | x :: r, y :: s, j + 1, h, h', hf => by rw [SX.sameL, SX.sameL_false r s j (by simpa using h) (by simpa using h') (by simpa using hf), Bool.and_false]
mutual
theorem SX.same_iff : ∀ (x y : SX), x.same y = true ↔ x = y
  | .mk a l, .mk b m => by
    rw [SX.same, Bool.and_eq_true, Bool.and_eq_true, decide_eq_true_eq, decide_eq_true_eq, SX.mk.injEq]
    constructor
    · rintro ⟨⟨h1, h2⟩, h3⟩; exact ⟨h1, (SX.sameL_iff l m h2).1 h3⟩
    · rintro ⟨h1, h2⟩; subst h2; exact ⟨⟨h1, rfl⟩, (SX.sameL_iff l l rfl).2 rfl⟩
theorem SX.sameL_iff : ∀ (l m : List SX), l.length = m.length → (SX.sameL l m = true ↔ l = m)
  | [], m, h => by rw [SX.sameL]; simp; exact List.eq_nil_of_length_eq_zero h.symm
  | x :: r, [], h => by simp at h
  | x :: r, y :: s, h => by rw [SX.sameL, Bool.and_eq_true, SX.same_iff x y, SX.sameL_iff r s (by simpa using h), List.cons.injEq]
end

theorem bytes_ne {a b : ByteArray} (h : a ≠ b) : (a.toList == b.toList) = false := by
  rw [beq_eq_false_iff_ne]
  intro e
  rw [ByteArray.toList_eq, ByteArray.toList_eq] at e
  exact h (ByteArray.ext (Array.toList_inj.1 e))
/-- Two boxed parameters, and what the loop reads of them. -/
theorem boxed2 {w wr : World} {t : TypeId} {a a' : ByteArray} {A A' : Option Addr} {n c n' c' : Nat}
    (hb : Below (w.heap.size + 2) ((w.alloc (.cells #[.string a, .slice A n c] t)).alloc (.cells #[.string a', .slice A' n' c'] t)) wr) :
    wr.cell? ⟨w.heap.size, 0, none⟩ = some (.string a) ∧ wr.cell? ⟨w.heap.size, 1, none⟩ = some (.slice A n c) ∧
    wr.cell? ⟨w.heap.size + 1, 0, none⟩ = some (.string a') ∧ wr.cell? ⟨w.heap.size + 1, 1, none⟩ = some (.slice A' n' c') ∧ Below w.heap.size w wr := by
  have hw : Below (w.heap.size + 1) (w.alloc (.cells #[.string a, .slice A n c] t)) wr := ((Below.refl _ _).alloc (by simp) _).trans (hb.mono (by omega))
  obtain ⟨h0, h1, h2⟩ := boxed (hw.mono (by simp))
  have h := (Whole.new (w.alloc (.cells #[.string a, .slice A n c] t)) t #[.string a', .slice A' n' c']).below hb (by simp)
  rw [World.size_alloc] at h
  exact ⟨h0, h1, by rw [h.cell]; rfl, by rw [h.cell]; rfl, h2⟩

def SameX (N : Nat) : Prop := ∀ (x y : SX) (A B : Option Addr) (c d : Nat) (w : World), x.nodes ≤ N → x.nodes ≤ 4294967296 → y.nodes ≤ 4294967296 → ListAt w (Lt w.heap.size) A x.list → ListAt w (Lt w.heap.size) B y.list →
  Calls Try.prog 21 #[.agg #[.string x.atom, .slice A x.list.length c], .agg #[.string y.atom, .slice B y.list.length d]] w fun e w' => e = .returned (.bool (x.same y)) ∧ Below w.heap.size w w'

set_option maxRecDepth 100000 in
set_option maxHeartbeats 2000000 in
theorem sameX : ∀ N, SameX N
  | 0 => fun x y A B c d w hn => by rw [SX.nodes_eq] at hn; omega
  | N + 1 => by
    intro x y A B c d w hn hmx hmy hA hB
    have ih := sameX N
    have hne := SX.nodes_eq x
    have hny := SX.nodes_eq y
    have hlx := SX.nodesL_length x.list
    have hly := SX.nodesL_length y.list
    have hxl : x.list.length ≤ 4294967296 := by omega
    have hyl : y.list.length ≤ 4294967296 := by omega
    have hsq := SX.same_eq x y
    have hb2 : Below w.heap.size w ((w.alloc (.cells #[.string x.atom, .slice A x.list.length c] 26)).alloc (.cells #[.string y.atom, .slice B y.list.length d] 26)) :=
      ((Below.refl _ _).alloc (Nat.le_refl _) _).alloc (by simp) _
    have HA := Lib.hid hA
    have HB := Lib.hid hB
    have HE := Lib.hid hne
    have HF := Lib.hid hny
    clear hA hB hne hny
    by_cases hat : x.atom = y.atom
    case neg =>
      rw [decide_eq_false hat, Bool.false_and, Bool.false_and] at hsq
      have HS := Lib.hid hsq
      have hq := bytes_ne hat
      clear hsq hat
      go_enter Try.func21, Try.ntmps21
      go_wp2
      go_ret
      exact ⟨congrArg (fun b => Ending.returned (.bool b)) HS.out.symm, hb2⟩
    case pos =>
      rw [decide_eq_true hat, Bool.true_and] at hsq
      by_cases hlen : x.list.length = y.list.length
      · rw [decide_eq_true hlen, Bool.true_and] at hsq
        have HS := Lib.hid hsq
        have HL := Lib.hid hlen
        rw [hat, ← hlen]
        clear hsq hat hlen
        go_enter Try.func21, Try.ntmps21
        go_wp2
        go_loopw [5] (fun iv wr => ∃ k : Nat, k ≤ x.list.length ∧ iv = .int .i64 k ∧ SX.sameL (x.list.take k) (y.list.take k) = true ∧ Below (w.heap.size + 2) ((w.alloc (.cells #[.string y.atom, .slice A x.list.length c] 26)).alloc (.cells #[.string y.atom, .slice B x.list.length d] 26)) wr) (fun iv _ => x.list.length - (Go.RowKit.intOf iv).toNat)
        case atStart => exact ⟨0, Nat.zero_le _, rfl, by simp [SX.sameL], Below.refl _ _⟩
        case round =>
          obtain ⟨k, hk, rfl, hs, hb⟩ := hrel
          obtain ⟨a0, a1, c0, c1, hbw⟩ := boxed2 hb
          have hbs : w.heap.size + 2 ≤ wr.heap.size := by simpa using hb.size
          have HT := Lib.hid hs
          clear hs
          by_cases hlt : k < x.list.length
          · have hlt2 : k < y.list.length := by have := HL.out; omega
            obtain ⟨b, o, A', c', rfl, hP, hc0, hc1, hl'⟩ := (HA.out.below hbw).at_ hlt
            obtain ⟨b2, o2, B', d', rfl, hP2, hd0, hd1, hm'⟩ := (HB.out.below hbw).at_ hlt2
            have hx := hl'.frame (Q := Lt wr.heap.size) (fun b h => Nat.lt_of_lt_of_le h hbw.size) (fun _ _ _ => rfl)
            have hy := hm'.frame (Q := Lt wr.heap.size) (fun b h => Nat.lt_of_lt_of_le h hbw.size) (fun _ _ _ => rfl)
            have hst := SX.sameL_take x.list y.list k hlt hlt2
            have hno := SX.sameL_false x.list y.list k hlt hlt2
            rw [HT.out, Bool.true_and] at hst
            have hnx : x.list[k].nodes ≤ N := by have := SX.nodesL_at x.list k hlt; have := HE.out; omega
            have hnm : x.list[k].nodes ≤ 4294967296 := by have := SX.nodesL_at x.list k hlt; have := HE.out; omega
            have hny : y.list[k].nodes ≤ 4294967296 := by have := SX.nodesL_at y.list k hlt2; have := HF.out; omega
            have cE : ∀ dr os, Calls Try.prog 21 #[.agg #[.string x.list[k].atom, .slice A' x.list[k].list.length c'], .agg #[.string y.list[k].atom, .slice B' y.list[k].list.length d']] (Go.Sort.grow (redrawn wr dr) os) fun e w'' => e = .returned (.bool (x.list[k].same y.list[k])) ∧ ∃ p : Regrown, w'' = Go.Sort.grow (redrawn wr p.d) p.os :=
              fun dr os => Calls.regrown_of (ih x.list[k] y.list[k] A' B' c' d' _ hnx hnm hny (hx.grow (below_regrown wr dr os)) (hy.grow (below_regrown wr dr os)))
            have k0 := cell_regrown hc0
            have k1 := cell_regrown hc1
            have k2 := cell_regrown hd0
            have k3 := cell_regrown hd1
            have k4 := cell_regrown a1
            have k5 := cell_regrown c1
            have hk0 : (0 : Int) ≤ k := by omega
            have HSt := Lib.hid hst
            have HNo := Lib.hid hno
            clear hx hy hl' hm' hnx hst hno
            go_wp2
            refine wp_region_quiet_below (by kernel_rfl) (by kernel_rfl) ?_
            repeat (quiet_step (exact cE _ _))
            refine wpQuiet_nil ?_
            intro _ hw'
            obtain ⟨⟨dq, osq⟩, hw''⟩ := hw'
            subst hw''
            have hb3 := hb.trans ((below_regrown wr dq osq).mono hbs)
            have hbw3 := hbw.trans ((below_regrown wr dq osq).mono hbw.size)
            clear cE k0 k1 k2 k3 k4 k5
            cases hc : x.list[k].same y.list[k] with
            | true =>
              have HC := Lib.hid hc
              clear hc
              go_wp2
              go_roundw
              case rel => exact ⟨k + 1, by omega, by go_num, by rw [HSt.out, HC.out], hb3⟩
              case measure => simp [Go.RowKit.intOf]; omega
            | false =>
              have HC := Lib.hid hc
              clear hc
              go_wp2
              go_ret
              exact ⟨congrArg (fun b => Ending.returned (.bool b)) (HS.out.trans (HNo.out HC.out)).symm, hbw3⟩
          · have hkl : k = x.list.length := by omega
            subst hkl
            have ht := HT.out
            rw [List.take_length, HL.out, List.take_length] at ht
            have HT' := Lib.hid ht
            clear ht
            go_wp2
            go_ret
            exact ⟨congrArg (fun b => Ending.returned (.bool b)) (HS.out.trans HT'.out).symm, hbw⟩
      · rw [decide_eq_false hlen, Bool.false_and] at hsq
        have HS := Lib.hid hsq
        have hlz : ((x.list.length : Int) == y.list.length) = false := by rw [beq_eq_false_iff_ne]; omega
        clear hsq
        rw [hat] at hb2 ⊢
        clear hat
        go_enter Try.func21, Try.ntmps21
        go_wp2
        go_ret
        exact ⟨congrArg (fun b => Ending.returned (.bool b)) HS.out.symm, hb2⟩
end Go.Proofs.Ytbcfeoobhemdcaa

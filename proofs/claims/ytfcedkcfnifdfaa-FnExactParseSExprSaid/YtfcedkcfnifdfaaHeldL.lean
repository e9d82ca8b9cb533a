/- The laws' own helpers over an expression's rows: that the marks are held; marking and holding a whole expression. -/
import Derived.Test.YtfcedkcfnifdfaaMarkL
import Derived.BigQuiet
import Derived.Deep.QuietTactic
namespace Go.Proofs.Ytfcedkcfnifdfaa
open Go.RowKit Go.Lib

theorem SX.atom_mk (a : ByteArray) (l : List SX) : (SX.mk a l).atom = a := rfl
theorem SX.list_mk (a : ByteArray) (l : List SX) : (SX.mk a l).list = l := rfl
def HeldS (N : Nat) : Prop := ∀ (l : List SX) (A : Option Addr) (c k : Nat) (w : World), SX.nodesL l ≤ N → ListAt w (Lt w.heap.size) A (mrkL k l) → 0 < k → k + SX.nodesL l ≤ 4294967296 →
  Calls Try.prog 59 #[.slice A l.length c, .int .i64 k] w fun e w' => e = .returned (.int .i64 (k + SX.nodesL l : Nat)) ∧ Below w.heap.size w w'

set_option maxRecDepth 100000 in
set_option maxHeartbeats 2000000 in
theorem heldS_step (N : Nat) (ih : HeldS N) : HeldS (N + 1) := by
  intro l A c k w hn hl hk0 hkn
  have hcount := nodesL_count l
  have HL := Lib.hid hl
  have HN := Lib.hid hn
  clear hl hn
  go_enter Try.func59, Try.ntmps59
  go_wp2
  go_loopw [1, 5] (fun kv iv wr => ∃ i kk : Nat, i ≤ l.length ∧ iv = .int .i64 i ∧ kk = k + SX.nodesL (l.take i) ∧ kv = .int .i64 kk ∧ Below w.heap.size w wr) (fun _ iv _ => l.length - (Go.RowKit.intOf iv).toNat)
  case atStart => exact ⟨0, k, Nat.zero_le _, rfl, by simp [SX.nodesL], rfl, Below.refl _ _⟩
  case round =>
    obtain ⟨i, kk, hi, rfl, hkke, rfl, hb⟩ := hrel
    by_cases hlt : i < l.length
    · have hst := nodesL_step l i hlt
      have hle := nodesL_part l (i + 1)
      have hne := SX.nodes_eq l[i]
      have hml := mrkL_length l k
      have hat := (HL.out.grow hb).at_ (j := i) (by rw [hml]; exact hlt)
      have hge : (mrkL k l)[i]'(by rw [hml]; exact hlt) = l[i].mrk kk := by
        have h := mrkL_at l k i hlt
        rw [List.getElem?_eq_getElem (by rw [hml]; exact hlt), ← hkke] at h
        exact Option.some.inj h
      rw [hge, mrk_eq] at hat
      simp only [SX.atom_mk, SX.list_mk, mrkL_length] at hat
      obtain ⟨b, o, A', c', rfl, hblt, c0, c1, hlx⟩ := hat
      have hk0' : 0 < kk := by omega
      have hkb : kk ≤ 4294967296 := by omega
      have hNx : SX.nodesL l[i].list ≤ N := by have := HN.out; omega
      have hk1 : kk + 1 + SX.nodesL l[i].list ≤ 4294967296 := by omega
      have hkk : ((kk : Nat) : Int) + 1 = ((kk + 1 : Nat) : Int) := by omega
      have hi0 : (0 : Int) ≤ i := by omega
      have cM : ∀ d os, Calls Try.prog 70 #[.int .i64 (kk : Nat)] (Go.Sort.grow (redrawn wr d) os) fun e w'' => e = .returned (.string (mark kk)) ∧ ∃ p : Regrown, w'' = Go.Sort.grow (redrawn wr p.d) p.os := fun d os => Calls.regrown_of (markText kk _ (by omega) (by omega))
      have kc := cell_regrown c0
      have HLX := Lib.hid hlx
      have HST := Lib.hid hst
      have HNE := Lib.hid hne
      have HKK := Lib.hid hkk
      have HKE := Lib.hid hkke
      have HC1 := Lib.hid c1
      clear hlx hst hne hkk hkke hml hge hle c1
      go_wp2
      refine wp_region_quiet_below (by kernel_rfl) (by kernel_rfl) ?_
      repeat (quiet_step (exact cM _ _))
      refine wpQuiet_nil ?_
      intro _ hw'
      obtain ⟨⟨dq, osq⟩, hw''⟩ := hw'
      subst hw''
      have hb2 := below_regrown wr dq osq
      have hb3 := hb.trans (hb2.mono hb.size)
      have c1' := (hb2.cell (p := ⟨b, o + i * 2 + 1, none⟩) hblt).trans HC1.out
      have HLX2 := Lib.hid (HLX.out.grow hb2)
      clear cM kc c0
      have HB3 := Lib.hid hb3
      clear hb3 hb2
      generalize Go.Sort.grow (redrawn wr dq) osq = w2 at *
      go_wp2_with fail
      rw [HKK.out]
      refine (ih l[i].list A' c' (kk + 1) w2 hNx HLX2.out (by omega) hk1).mono ?_
      rintro e w3 ⟨rfl, hb4⟩
      have hb5 := HB3.out.trans (hb4.mono HB3.out.size)
      have hnn : ¬ (((kk + 1 + SX.nodesL l[i].list : Nat) : Int) < 0) := by omega
      clear c1' hb4
      go_wp2
      go_roundw
      case rel => exact ⟨i + 1, kk + 1 + SX.nodesL l[i].list, by omega, by go_num, by rw [HST.out, HNE.out, HKE.out]; omega, rfl, hb5⟩
      case measure => simp [Go.RowKit.intOf]; omega
    · have hil : i = l.length := by omega
      subst hil
      rw [List.take_length] at hkke
      subst hkke
      go_wp2
      go_ret
      exact ⟨rfl, hb⟩
theorem heldSAll : ∀ N, HeldS N
  | 0 => by
    intro l A c k w hn hl hk0 hkn
    have hc := nodesL_count l
    have hl : l = [] := List.eq_nil_of_length_eq_zero (by omega)
    subst hl
    go_enter Try.func59, Try.ntmps59
    go_wp2
    refine wp_loop_rounds 1 ?_
    rw [rounds_succ]
    go_wp2
    go_ret
    exact ⟨rfl, Below.refl _ _⟩
  | N + 1 => heldS_step N (heldSAll N)

set_option maxRecDepth 100000 in
set_option maxHeartbeats 1000000 in
/-- A whole expression marked: its own word stays, all else bears marks. -/
theorem markWhole (x : SX) (A : Option Addr) (c k B : Nat) (bs : List Nat) (w : World) (hO : OwX w B x (.string x.atom) (.slice A x.list.length c) bs) (hnd : bs.Nodup) (hlt : ∀ b ∈ bs, b < w.heap.size) (hk0 : 0 < k) (hk : k + SX.nodesL x.list ≤ 4294967296) :
    Calls Try.prog 34 #[.agg #[.string x.atom, .slice A x.list.length c], .int .i64 k] w fun e w' => e = .returned (.int .i64 (k + SX.nodesL x.list : Nat)) ∧ ListAt w' (fun b => b ∈ bs) A (mrkL k x.list) ∧ ButL bs w w' := by
  have hb0 : Below w.heap.size w (w.alloc (.cells #[.string x.atom, .slice A x.list.length c] 26)) := (Below.refl _ _).alloc (Nat.le_refl _) _
  have hO1 := OwX_frame _ (fun b hb => hb0.block b (hlt b hb)) (OwX_bare hO)
  have hlt1 : ∀ b ∈ bs, b < (w.alloc (.cells #[.string x.atom, .slice A x.list.length c] 26)).heap.size := fun b hb => by have := hlt b hb; simp; omega
  have HO := Lib.hid hO1
  have HL := Lib.hid hlt1
  have HN := Lib.hid hnd
  have HB := Lib.hid hb0
  clear hO hO1 hlt hlt1 hnd hb0
  go_enter Try.func34, Try.ntmps34
  go_wp2_with fail
  refine (markSAll (SX.nodesL x.list) x.list A c k B bs _ (Nat.le_refl _) HO.out HN.out HL.out hk0 hk).mono ?_
  rintro e w1 ⟨rfl, hO2, hb2⟩
  have h1 := OwX_list (P := fun b => b ∈ bs) _ (fun b hb => hb) hO2
  have h2 := (ButL.of_below (bs := bs) HB.out).trans hb2
  have H1 := Lib.hid h1
  have H2 := Lib.hid h2
  clear hO2 hb2 h1 h2
  go_wp2
  go_ret
  exact ⟨rfl, H1.out, H2.out⟩
set_option maxRecDepth 100000 in
set_option maxHeartbeats 1000000 in
theorem heldWhole (x : SX) (A : Option Addr) (c k : Nat) (w : World) (hl : ListAt w (Lt w.heap.size) A (mrkL k x.list)) (hk0 : 0 < k) (hk : k + SX.nodesL x.list ≤ 4294967296) :
    Calls Try.prog 35 #[.agg #[.string x.atom, .slice A x.list.length c], .int .i64 k] w fun e w' => e = .returned (.int .i64 (k + SX.nodesL x.list : Nat)) ∧ Below w.heap.size w w' := by
  have hb0 : Below w.heap.size w (w.alloc (.cells #[.string x.atom, .slice A x.list.length c] 26)) := (Below.refl _ _).alloc (Nat.le_refl _) _
  have HL := Lib.hid (hl.grow hb0)
  have HB := Lib.hid hb0
  clear hl hb0
  go_enter Try.func35, Try.ntmps35
  go_wp2_with fail
  refine (heldSAll (SX.nodesL x.list) x.list A c k _ (Nat.le_refl _) HL.out hk0 hk).mono ?_
  rintro e w1 ⟨rfl, hb1⟩
  have hb2 := HB.out.trans (hb1.mono HB.out.size)
  have hnn : ¬ (((k + SX.nodesL x.list : Nat) : Int) < 0) := by omega
  clear hb1
  go_wp2
  go_ret
  exact ⟨rfl, hb2⟩
end Go.Proofs.Ytfcedkcfnifdfaa

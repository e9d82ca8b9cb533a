/- The program's IsValidSExpr: a size that stops at the first violation. -/
import Derived.Test.YtbcfeoobhemdcaaQ1
import Derived.Test.YtbcfeoobhemdcaaZSpecFormat
import Derived.Lib.QuietBelow
namespace Go.Proofs.Ytbcfeoobhemdcaa
open Go.RowKit Go.Lib

/-- Within both limits and in form. -/
def SX.fits (x : SX) (d m : Nat) : Bool := decide (x.nodes ≤ m) && x.form && decide (x.depth ≤ d)
def SX.fitsL (l : List SX) (d m : Nat) : Bool := decide (SX.nodesL l ≤ m) && SX.formL l && decide (SX.depthL l ≤ d)
theorem SX.fits_iff {x : SX} {d m : Nat} : x.fits d m = true ↔ x.nodes ≤ m ∧ x.form = true ∧ x.depth ≤ d := by
  rw [SX.fits, Bool.and_eq_true, Bool.and_eq_true, decide_eq_true_eq, decide_eq_true_eq, and_assoc]
theorem SX.fitsL_iff {l : List SX} {d m : Nat} : SX.fitsL l d m = true ↔ SX.nodesL l ≤ m ∧ SX.formL l = true ∧ SX.depthL l ≤ d := by
  rw [SX.fitsL, Bool.and_eq_true, Bool.and_eq_true, decide_eq_true_eq, decide_eq_true_eq, and_assoc]
theorem SX.fits_valid (x : SX) : x.fits 14 900 = x.valid := by rw [Bool.eq_iff_iff, SX.fits_iff, SX.valid_iff]
theorem SX.fits_small (x : SX) (d : Nat) : x.fits d 0 = false := by
  rw [← Bool.not_eq_true, SX.fits_iff, SX.nodes_eq]; omega
theorem SX.fits_atom {x : SX} {d m : Nat} (hm : 0 < m) (ha : ¬ x.atom.size = 0) : x.fits d m = (okAtom x.atom && decide (x.list.length = 0)) := by
  rw [Bool.eq_iff_iff, SX.fits_iff, SX.form_eq, SX.depth_eq, if_neg ha, if_neg ha, Bool.and_eq_true, decide_eq_true_eq, SX.nodes_eq]
  constructor
  · rintro ⟨_, h, _⟩; exact h
  · rintro ⟨h1, h2⟩
    rw [List.eq_nil_of_length_eq_zero h2, SX.nodesL]
    exact ⟨by omega, ⟨h1, by simp⟩, Nat.zero_le _⟩
theorem SX.fits_flat {x : SX} {m : Nat} (ha : x.atom.size = 0) : x.fits 0 m = false := by
  rw [← Bool.not_eq_true, SX.fits_iff, SX.depth_eq, if_pos ha]; omega
theorem SX.fits_list {x : SX} {d m : Nat} (ha : x.atom.size = 0) : x.fits (d + 1) (m + 1) = SX.fitsL x.list d m := by
  rw [Bool.eq_iff_iff, SX.fits_iff, SX.fitsL_iff, SX.form_eq, SX.depth_eq, if_pos ha, if_pos ha, SX.nodes_eq]
  constructor
  · rintro ⟨h1, h2, h3⟩; exact ⟨by omega, h2, by omega⟩
  · rintro ⟨h1, h2, h3⟩; exact ⟨by omega, h2, by omega⟩
theorem SX.depthL_at : ∀ (l : List SX) (j : Nat) (h : j < l.length), l[j].depth ≤ SX.depthL l
  | x :: r, 0, _ => by rw [SX.depthL]; simp; omega
  | x :: r, j + 1, h => by
    have := SX.depthL_at r j (by simpa using h)
    rw [SX.depthL]; simp; omega
theorem SX.fitsL_step {l : List SX} {d m j : Nat} (h : j < l.length) (hf : SX.fitsL (l.take j) d m = true) (hx : l[j].fits d (m - SX.nodesL (l.take j)) = true) : SX.fitsL (l.take (j + 1)) d m = true := by
  rw [SX.fitsL_iff] at *
  rw [SX.fits_iff] at hx
  rw [SX.nodesL_take l j h, SX.formL_take l j h, SX.depthL_take l j h, hf.2.1, hx.2.1]
  exact ⟨by omega, rfl, by omega⟩
theorem SX.fitsL_stop {l : List SX} {d m j : Nat} (h : j < l.length) (hf : SX.fitsL (l.take j) d m = true) (hx : l[j].fits d (m - SX.nodesL (l.take j)) = false) : SX.fitsL l d m = false := by
  rw [← Bool.not_eq_true] at *
  intro h1
  refine hx ?_
  rw [SX.fitsL_iff] at *
  rw [SX.fits_iff]
  have h2 := SX.nodesL_take l j h
  have h3 := SX.nodesL_le l (j + 1)
  have h4 := SX.depthL_at l j h
  refine ⟨by omega, ?_, by omega⟩
  cases hc : l[j].form with
  | true => rfl
  | false => rw [SX.formL_false l j h hc] at h1; exact absurd h1.2.1 (by decide)

/-- What the size's function returns. -/
def Sized (x : SX) (d m : Nat) (w : World) (e : Ending) (w' : World) : Prop := (∃ z : Int, e = .returned (.tuple #[.int .i64 z, .bool (x.fits d m)]) ∧ (x.fits d m = true → z = x.nodes)) ∧ Below w.heap.size w w'
theorem Sized.yes {x : SX} {d m : Nat} {w w' : World} {z : Int} (hf : x.fits d m = true) (hz : z = x.nodes) (hb : Below w.heap.size w w') : Sized x d m w (.returned (.tuple #[.int .i64 z, .bool true])) w' :=
  ⟨⟨z, by rw [hf], fun _ => hz⟩, hb⟩
theorem Sized.no {x : SX} {d m : Nat} {w w' : World} {z : Int} (hf : x.fits d m = false) (hb : Below w.heap.size w w') : Sized x d m w (.returned (.tuple #[.int .i64 z, .bool false])) w' :=
  ⟨⟨z, by rw [hf], fun h => by rw [hf] at h; cases h⟩, hb⟩

def VsX (N : Nat) : Prop := ∀ (x : SX) (A : Option Addr) (c d m : Nat) (w : World), x.nodes ≤ N → x.ok → d ≤ 14 → m ≤ 900 → ListAt w (Lt w.heap.size) A x.list →
  Calls Try.prog 67 #[.agg #[.string x.atom, .slice A x.list.length c], .int .i64 d, .int .i64 m] w (Sized x d m w)

set_option maxRecDepth 100000 in
set_option maxHeartbeats 2000000 in
theorem vsX : ∀ N, VsX N
  | 0 => fun x A c d m w hn => by rw [SX.nodes_eq] at hn; omega
  | N + 1 => by
    intro x A c d m w hn hok hd hm hl
    have ih := vsX N
    obtain ⟨hza, hll, hol⟩ := SX.ok_eq x hok
    have hne := SX.nodes_eq x
    have hb0 : Below w.heap.size w (w.alloc (.cells #[.string x.atom, .slice A x.list.length c] 26)) := (Below.refl _ _).alloc (Nat.le_refl _) _
    have HE := Lib.hid hne
    have HL := Lib.hid hl
    have HO := Lib.hid hol
    have HN := Lib.hid hn
    clear hne hl hol hok hn
    by_cases hm0 : m = 0
    · subst hm0
      have hf := SX.fits_small x d
      have HF := Lib.hid hf
      clear hf
      go_enter Try.func67, Try.ntmps67
      go_wp2
      go_ret2
      exact Sized.no HF.out hb0
    · have hm1 : ¬ (m : Int) < 1 := by omega
      by_cases ha : x.atom.size = 0
      · by_cases hd0 : d = 0
        · subst hd0
          have hf := @SX.fits_flat x m ha
          have HF := Lib.hid hf
          clear hf
          rw [empty_of ha] at hb0 ⊢
          clear ha
          go_enter Try.func67, Try.ntmps67
          go_wp2
          go_ret2
          exact Sized.no HF.out hb0
        · obtain ⟨d', rfl⟩ : ∃ d', d = d' + 1 := ⟨d - 1, by omega⟩
          obtain ⟨m', rfl⟩ : ∃ m', m = m' + 1 := ⟨m - 1, by omega⟩
          have hf := @SX.fits_list x d' m' ha
          have hd1 : ¬ ((d' + 1 : Nat) : Int) < 1 := by omega
          have HF := Lib.hid hf
          clear hf
          rw [empty_of ha] at hb0 ⊢
          clear ha
          go_enter Try.func67, Try.ntmps67
          go_wp2
          go_loopw [8, 32] (fun sv iv wr => ∃ k : Nat, k ≤ x.list.length ∧ iv = .int .i64 k ∧ sv = .int .i64 (1 + SX.nodesL (x.list.take k) : Nat) ∧ SX.fitsL (x.list.take k) d' m' = true ∧ Below (w.alloc (.cells #[.string ByteArray.empty, .slice A x.list.length c] 26)).heap.size (w.alloc (.cells #[.string ByteArray.empty, .slice A x.list.length c] 26)) wr) (fun _ iv _ => x.list.length - (Go.RowKit.intOf iv).toNat)
          case atStart => exact ⟨0, Nat.zero_le _, rfl, by simp [SX.nodesL], by rw [List.take_zero, SX.fitsL_iff, SX.nodesL, SX.formL, SX.depthL]; exact ⟨Nat.zero_le _, rfl, Nat.zero_le _⟩, Below.refl _ _⟩
          case round =>
            obtain ⟨k, hk, rfl, rfl, hfk, hb⟩ := hrel
            obtain ⟨b0, b1, hbw⟩ := boxed hb
            have hle := (SX.fitsL_iff.1 hfk).1
            have HK := Lib.hid hfk
            clear hfk
            by_cases hlt : k < x.list.length
            · obtain ⟨b, o, A', c', rfl, hP, hc0, hc1, hl'⟩ := (boxedList HL.out hb).at_ hlt
              have hx : x.list[k].nodes ≤ N := by have := SX.nodesL_at x.list k hlt; have := HE.out; have := HN.out; omega
              have hst := SX.nodesL_take x.list k hlt
              have hsub : (m' : Int) + 1 - (1 + (SX.nodesL (x.list.take k) : Int)) = ((m' - SX.nodesL (x.list.take k) : Nat) : Int) := by omega
              have hbe : Below wr.heap.size wr (wr.alloc (.cells #[.string x.list[k].atom, .slice A' x.list[k].list.length c'] 26)) := (Below.refl _ _).alloc (Nat.le_refl _) _
              have hlg := hl'.grow hbe
              have hyes := @SX.fitsL_step x.list d' m' k hlt HK.out
              have hno := @SX.fitsL_stop x.list d' m' k hlt HK.out
              have HG := Lib.hid hlg
              have HS := Lib.hid hst
              have HX := Lib.hid hl'
              have HU := Lib.hid hsub
              have HY := Lib.hid hyes
              have HNo := Lib.hid hno
              clear hst hl' hsub hlg hyes hno
              go_wp2_with fail
              rw [HU.out]
              refine (ih x.list[k] A' c' d' (m' - SX.nodesL (x.list.take k)) _ hx (SX.okL_at _ HO.out k hlt) (by omega) (by omega) HG.out).mono ?_
              rintro e w1 ⟨⟨z, rfl, hz⟩, hb1⟩
              have hb2 := hb.trans ((hbe.trans (hb1.mono hbe.size)).mono hb.size)
              have hbw2 := hbw.trans ((hbe.trans (hb1.mono hbe.size)).mono hbw.size)
              cases hc : x.list[k].fits d' (m' - SX.nodesL (x.list.take k)) with
              | true =>
                have hz2 := hz hc
                have hnew := HY.out hc
                have hle2 := (SX.fits_iff.1 hc).1
                have HC := Lib.hid hnew
                clear hz hc hnew
                subst hz2
                go_wp2
                go_roundw
                case rel => exact ⟨k + 1, by omega, by go_num, int_of (by rw [HS.out]; omega), HC.out, hb2⟩
                case measure => simp [Go.RowKit.intOf]; omega
              | false =>
                have hnew := HNo.out hc
                have HC := Lib.hid hnew
                clear hz hc hnew
                go_wp2
                go_ret2
                exact Sized.no (HF.out.trans HC.out) hbw2
            · have hkl : k = x.list.length := by omega
              subst hkl
              have ht := HK.out
              rw [List.take_length] at ht hle ⊢
              have HT := Lib.hid ht
              clear ht
              go_wp2
              go_ret2
              exact Sized.yes (HF.out.trans HT.out) (by rw [HE.out]) hbw
      · have hf := @SX.fits_atom x d m (by omega) ha
        have hnem := nonempty_of ha
        have hc0 := (boxed (w := w) (t := 26) (a := x.atom) (A := A) (n := x.list.length) (c := c) (Below.refl _ _)).1
        have hc1 := (boxed (w := w) (t := 26) (a := x.atom) (A := A) (n := x.list.length) (c := c) (Below.refl _ _)).2.1
        have kc0 := cell_regrown hc0
        have kc1 := cell_regrown hc1
        have HF := Lib.hid hf
        clear hf hc0 hc1
        have cM : ∀ d os, Calls Try.prog 113 #[.string x.atom] (Go.Sort.grow (redrawn (w.alloc (.cells #[.string x.atom, .slice A x.list.length c] 26)) d) os) fun e w'' => e = .returned (.bool (okAtom x.atom)) ∧ ∃ p : Regrown, w'' = Go.Sort.grow (redrawn (w.alloc (.cells #[.string x.atom, .slice A x.list.length c] 26)) p.d) p.os := fun d os => Calls.regrown_of (implAtom x.atom _ hza)
        cases hc : okAtom x.atom with
        | true =>
          rw [hc] at cM
          have HC := Lib.hid hc
          clear hc
          by_cases hlz : x.list.length = 0
          · have hq : ((x.list.length : Int) == 0) = true := by rw [hlz]; rfl
            have hfz : x.fits d m = true := by rw [HF.out, HC.out, decide_eq_true hlz]; rfl
            have HZ := Lib.hid hfz
            have hnz : x.nodes = 1 := by rw [HE.out, List.eq_nil_of_length_eq_zero hlz, SX.nodesL]
            have HNZ := Lib.hid hnz
            clear hnz hlz
            clear hfz
            go_enter Try.func67, Try.ntmps67
            go_wp2
            refine wp_region_quiet_below (by kernel_rfl) (by kernel_rfl) ?_
            repeat (go_big_quiet_step (exact cM _ _))
            refine wpQuiet_nil ?_
            intro _ hw'
            obtain ⟨⟨dq, osq⟩, hw''⟩ := hw'
            subst hw''
            have hb3 := hb0.trans ((below_regrown _ dq osq).mono hb0.size)
            clear cM kc0 kc1
            go_wp2
            go_ret2
            exact Sized.yes HZ.out (by rw [HNZ.out]; rfl) hb3
          · have hq : ((x.list.length : Int) == 0) = false := by rw [beq_eq_false_iff_ne]; omega
            have hfz : x.fits d m = false := by rw [HF.out, HC.out, decide_eq_false hlz]; rfl
            have HZ := Lib.hid hfz
            clear hlz
            clear hfz
            go_enter Try.func67, Try.ntmps67
            go_wp2
            refine wp_region_quiet_below (by kernel_rfl) (by kernel_rfl) ?_
            repeat (go_big_quiet_step (exact cM _ _))
            refine wpQuiet_nil ?_
            intro _ hw'
            obtain ⟨⟨dq, osq⟩, hw''⟩ := hw'
            subst hw''
            have hb3 := hb0.trans ((below_regrown _ dq osq).mono hb0.size)
            clear cM kc0 kc1
            go_wp2
            go_ret2
            exact Sized.no HZ.out hb3
        | false =>
          rw [hc] at cM
          have HC := Lib.hid hc
          clear hc
          go_enter Try.func67, Try.ntmps67
          go_wp2
          refine wp_region_quiet_below (by kernel_rfl) (by kernel_rfl) ?_
          repeat (go_big_quiet_step (exact cM _ _))
          refine wpQuiet_nil ?_
          intro _ hw'
          obtain ⟨⟨dq, osq⟩, hw''⟩ := hw'
          subst hw''
          have hb3 := hb0.trans ((below_regrown _ dq osq).mono hb0.size)
          clear cM kc0 kc1
          go_wp2
          go_ret2
          exact Sized.no (by rw [HF.out, HC.out]; rfl) hb3
end Go.Proofs.Ytbcfeoobhemdcaa

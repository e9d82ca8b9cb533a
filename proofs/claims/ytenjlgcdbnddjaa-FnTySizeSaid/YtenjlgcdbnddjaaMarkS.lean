/- The laws' mark and held over a row of strings, whatever its capacity. -/
import Derived.Test.YtenjlgcdbnddjaaMarkText
import Derived.BigQuiet
import Derived.Deep.QuietTactic
import Derived.Lib.QuietBelow
import Derived.Laws.OwnMore
namespace Go.Proofs.Ytenjlgcdbnddjaa
open Go.RowKit Go.Lib

/-- A row of n strings in block g that may be written. -/
def RowAt (w : World) (A : Option Addr) (g n : Nat) : Prop := n = 0 ∨ (A = some ⟨g, 0, none⟩ ∧ g < w.heap.size ∧ ∀ j, j < n → (∃ s, w.cell? ⟨g, j, none⟩ = some (.string s)) ∧ w.frozen? ⟨g, j, none⟩ = false)
/-- The row bears its marks. -/
def MarkedAt (w : World) (A : Option Addr) (g k n : Nat) : Prop := n = 0 ∨ (A = some ⟨g, 0, none⟩ ∧ g < w.heap.size ∧ ∀ j, j < n → w.cell? ⟨g, j, none⟩ = some (.string (mark (k + j))))
theorem RowAt.keep {w w' : World} {A : Option Addr} {g n : Nat} (h : RowAt w A g n) (hsz : w.heap.size ≤ w'.heap.size) (hb : g < w.heap.size → w'.heap[g]? = w.heap[g]?) : RowAt w' A g n := by
  rcases h with h | ⟨rfl, hg, hc⟩
  · exact .inl h
  · refine .inr ⟨rfl, by omega, fun j hj => ⟨?_, ?_⟩⟩
    · obtain ⟨s, hs⟩ := (hc j hj).1
      exact ⟨s, (World.cell?_of_block (a := ⟨g, j, none⟩) (hb hg)).trans hs⟩
    · have hf := (hc j hj).2
      unfold World.frozen? at hf ⊢
      rw [hb hg]
      exact hf
theorem RowAt.below {w w' : World} {A : Option Addr} {g n : Nat} (h : RowAt w A g n) (hb : Below w.heap.size w w') : RowAt w' A g n := h.keep hb.size (hb.block g)
theorem RowAt.but {w w' : World} {A : Option Addr} {g k n : Nat} (h : RowAt w A g n) (hb : But k w w') (hne : g ≠ k) : RowAt w' A g n := h.keep hb.size fun hg => hb.block g hg hne
theorem MarkedAt.keep {w w' : World} {A : Option Addr} {g k n : Nat} (h : MarkedAt w A g k n) (hsz : w.heap.size ≤ w'.heap.size) (hb : g < w.heap.size → w'.heap[g]? = w.heap[g]?) : MarkedAt w' A g k n := by
  rcases h with h | ⟨rfl, hg, hc⟩
  · exact .inl h
  · exact .inr ⟨rfl, by omega, fun j hj => (World.cell?_of_block (a := ⟨g, j, none⟩) (hb hg)).trans (hc j hj)⟩
theorem MarkedAt.below {w w' : World} {A : Option Addr} {g k n : Nat} (h : MarkedAt w A g k n) (hb : Below w.heap.size w w') : MarkedAt w' A g k n := h.keep hb.size (hb.block g)
theorem Whole.row {w : World} {g : Nat} {t : TypeId} {ss : List ByteArray} (h : Whole w g t (ss.map Value.string).toArray) : RowAt w (some ⟨g, 0, none⟩) g ss.length :=
  .inr ⟨rfl, h.lt, fun j hj => ⟨⟨ss[j], by rw [h.cell]; simp [hj]⟩, h.frozen j⟩⟩
theorem Strs.but {w w' : World} {A : Option Addr} {ss : List ByteArray} {g : Nat} (h : Strs w A ss) (hb : But g w w') (hne : ∀ ad, A = some ad → ad.block ≠ g) : Strs w' A ss := by
  rcases h with h | ⟨b, o, rfl, hg, hc⟩
  · exact .inl h
  · exact .inr ⟨b, o, rfl, Nat.lt_of_lt_of_le hg hb.size, fun j s hj => (World.cell?_of_block (a := ⟨b, o + j, none⟩) (hb.block b hg (hne _ rfl))).trans (hc j s hj)⟩
/-- What an owned row of strings is: its strings, its block. -/
theorem own_row {w : World} {B : Nat} {e : TypeId} {V : Value} {d : List ByteArray} (h : w.ownsRow B e 1 V d.length (d.map Value.string)) :
    ∃ A c g, V = .slice A d.length c ∧ Strs w A d ∧ RowAt w A g d.length ∧ B ≤ g ∧ (∀ ad, A = some ad → ad.block = g ∧ g < w.heap.size) := by
  rcases h.2 with ⟨rfl, h0⟩ | ⟨g, cap, cur, rfl, hBg, hblk, _⟩
  · exact ⟨none, 0, B, by rw [h0], .inl (List.eq_nil_of_length_eq_zero h0), .inl h0, Nat.le_refl _, fun ad e => by cases e⟩
  · have hlt := (h.lt g rfl).2
    have hc : ∀ j, j < d.length → w.cell? ⟨g, j, none⟩ = (d.map Value.string)[j]? := fun j hj => World.ownsRow.cellAt h j (by omega)
    refine ⟨_, cap, g, rfl, .inr ⟨g, 0, rfl, hlt, fun j s hj => ?_⟩, .inr ⟨rfl, hlt, fun j hj => ⟨⟨d[j], ?_⟩, ?_⟩⟩, hBg, fun ad e => by injection e with e; subst e; exact ⟨rfl, hlt⟩⟩
    · have hjl : j < d.length := by
        rcases Nat.lt_or_ge j d.length with h | h
        · exact h
        · rw [List.getElem?_eq_none h] at hj; cases hj
      rw [Nat.zero_add, hc j hjl, List.getElem?_map, hj]
      rfl
    · rw [hc j hj]; simp [hj]
    · simp [World.frozen?, hblk]

set_option maxRecDepth 100000 in
set_option maxHeartbeats 1000000 in
theorem markS (A : Option Addr) (g n k0 c : Nat) (w : World) (h : RowAt w A g n) (h0 : 0 < k0) (h1 : k0 ≤ 8589934592) (hn : n ≤ 8589934592) :
    Calls Try.prog 33 #[.slice A n c, .int .i64 k0] w fun e w' => e = .returned (.int .i64 (k0 + n : Nat)) ∧ MarkedAt w' A g k0 n ∧ But g w w' := by
  have HR := Lib.hid h
  clear h
  go_enter Try.func33, Try.ntmps33
  go_wp2
  go_loopw [1, 5] (fun q i wr => ∃ j : Nat, j ≤ n ∧ i = .int .i64 j ∧ q = .int .i64 (k0 + j : Nat) ∧ RowAt wr A g n ∧ MarkedAt wr A g k0 j ∧ But g w wr) (fun _ i _ => n - (intOf i).toNat)
  case atStart => exact ⟨0, Nat.zero_le _, rfl, rfl, HR.out, .inl rfl, But.refl _ _⟩
  case round =>
    clear HR
    obtain ⟨j, hj, rfl, rfl, hr, hm, hb⟩ := hrel
    by_cases hlt : j < n
    · have hr' := hr
      rcases hr' with h | ⟨rfl, hg, hc⟩
      · omega
      · have HM := Lib.hid hm
        have HR := Lib.hid hr
        have hc' := hc j hlt
        clear hm hr hc
        go_wp2_with fail
        refine (markText (k0 + j) _ (by omega) (by omega)).mono ?_
        rintro e w1 ⟨rfl, hb1⟩
        obtain ⟨⟨s, hs⟩, hf⟩ := hc'
        have hc1 : w1.cell? ⟨g, j, none⟩ = some (.string s) := (hb1.cell (p := ⟨g, j, none⟩) hg).trans hs
        have hf1 : w1.frozen? ⟨g, j, none⟩ = false := (hb1.frozen (p := ⟨g, j, none⟩) hg).trans hf
        have hb2 : But g w w1 := hb.trans (But.of_below hb1)
        have hr1 := HR.out.below hb1
        have hm1 := HM.out.below hb1
        have hr2 : RowAt (w1.setCell ⟨g, j, none⟩ (.string (mark (k0 + j)))) (some ⟨g, 0, none⟩) g n := by
          rcases hr1 with h | ⟨_, hg1, hc1'⟩
          · exact .inl h
          · refine .inr ⟨rfl, by simpa [World.setCell] using hg1, fun i hi => ⟨?_, by rw [World.frozen?_setCell]; exact (hc1' i hi).2⟩⟩
            by_cases hij : i = j
            · subst hij; exact ⟨_, World.cell?_setCell_same _ _ _ hc1⟩
            · obtain ⟨s', hs'⟩ := (hc1' i hi).1
              exact ⟨s', (World.cell?_setCell_other _ _ _ _ (fun e => hij (by injection e with _ e; exact e.symm))).trans hs'⟩
        have hm2 : MarkedAt (w1.setCell ⟨g, j, none⟩ (.string (mark (k0 + j)))) (some ⟨g, 0, none⟩) g k0 (j + 1) := by
          refine .inr ⟨rfl, by have := hb1.size; simp [World.setCell]; omega, fun i hi => ?_⟩
          by_cases hij : i = j
          · subst hij; exact World.cell?_setCell_same _ _ _ hc1
          · rcases hm1 with h | ⟨_, _, hcm⟩
            · omega
            · exact (World.cell?_setCell_other _ _ _ _ (fun e => hij (by injection e with _ e; exact e.symm))).trans (hcm i (by omega))
        have HR2 := Lib.hid hr2
        have HM2 := Lib.hid hm2
        clear hr1 hr2 hm1 hm2 HM HR
        go_wp2
        go_roundw
        case rel => exact ⟨j + 1, by omega, by go_num, int_of (by omega), HR2.out, HM2.out, hb2.trans (But.set_ _ _ _ _)⟩
        case measure => simp [intOf]; omega
    · have hjl : j = n := by omega
      subst hjl
      have HM := Lib.hid hm
      clear hm hr
      go_wp2
      go_ret
      exact ⟨rfl, HM.out, hb⟩

set_option maxRecDepth 100000 in
set_option maxHeartbeats 400000 in
theorem heldS (A : Option Addr) (g n k0 c : Nat) (w : World) (h : MarkedAt w A g k0 n) (h0 : 0 < k0) (h1 : k0 ≤ 8589934592) (hlen : n ≤ 8589934592) :
    Calls Try.prog 34 #[.slice A n c, .int .i64 k0] w fun e w' => e = .returned (.int .i64 (k0 + n : Nat)) ∧ Below w.heap.size w w' := by
  have HW := Lib.hid h
  clear h
  go_enter Try.func34, Try.ntmps34
  go_wp2
  go_loopw [1, 5] (fun q i wr => ∃ j : Nat, j ≤ n ∧ i = .int .i64 j ∧ q = .int .i64 (k0 + j : Nat) ∧ Below w.heap.size w wr) (fun _ i _ => n - (intOf i).toNat)
  case atStart => exact ⟨0, Nat.zero_le _, rfl, rfl, Below.refl _ _⟩
  case round =>
    obtain ⟨j, hj, rfl, rfl, hb⟩ := hrel
    by_cases hlt : j < n
    · rcases HW.out.below hb with h | ⟨rfl, hg, hcs⟩
      · omega
      · have hc := hcs j hlt
        have cM : ∀ d os, Calls Try.prog 55 #[.int .i64 (k0 + j : Nat)] (Go.Sort.grow (redrawn wr d) os) fun e w'' => e = .returned (.string (mark (k0 + j))) ∧ ∃ p : Regrown, w'' = Go.Sort.grow (redrawn wr p.d) p.os := fun d os => Calls.regrown_of (markText (k0 + j) _ (by omega) (by omega))
        have kc := cell_regrown hc
        have hj0 : (0 : Int) ≤ j := by omega
        clear hcs
        go_wp2
        refine wp_region_quiet_below (by kernel_rfl) (by kernel_rfl) ?_
        repeat (quiet_step (exact cM _ _))
        refine wpQuiet_nil ?_
        intro _ hw'
        obtain ⟨⟨dq, osq⟩, hw''⟩ := hw'
        subst hw''
        have hb3 := hb.trans ((below_regrown wr dq osq).mono hb.size)
        clear cM kc
        go_wp2
        go_roundw
        case rel => exact ⟨j + 1, by omega, by go_num, int_of (by omega), hb3⟩
        case measure => simp [intOf]; omega
    · go_wp2
      go_ret
      have hjl : j = n := by omega
      subst hjl
      exact ⟨rfl, hb⟩
end Go.Proofs.Ytenjlgcdbnddjaa

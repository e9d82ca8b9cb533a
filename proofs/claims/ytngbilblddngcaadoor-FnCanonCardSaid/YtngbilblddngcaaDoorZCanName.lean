/- The program's canonicalName; bind of a map of numbers. -/
import Derived.Test.YtngbilblddngcaaDoorZCanP
import Derived.Test.YtngbilblddngcaaDoorQ2
namespace Go.Proofs.YtngbilblddngcaaDoor
open Go.RowKit Go.Lib

set_option maxRecDepth 100000 in
theorem implCanName (n : Nat) (w : World) (hn : n ≤ 4294967296) (hp : Pow w) :
    Calls Tryd.prog 47 #[.int .i64 (n : Nat)] w fun e w' => e = .returned (.string (canName n)) ∧ Below w.heap.size w w' := by
  obtain ⟨s, hs⟩ : ∃ s : ByteArray, s = ⟨(itoa (n : Int)).toArray⟩ := ⟨_, rfl⟩
  obtain ⟨r, hr⟩ : ∃ r, r = canName n := ⟨_, rfl⟩
  have hrs : (⟨#[118]⟩ : ByteArray) ++ s = r := by rw [hr, hs]; rfl
  have hsl := itoa_small n hn
  rw [← hs] at hsl
  have hc := implFmt (n : Int) w (by omega) (by omega) hp
  rw [← hs] at hc
  have HC := Lib.hid hc
  have HR := Lib.hid hr
  clear hc hr hs
  go_enter Tryd.func47, Tryd.ntmps47
  go_wp2_with fail
  refine HC.out.mono ?_
  rintro e w1 ⟨rfl, hb⟩
  go_wp2
  go_ret
  rw [← HR.out]
  exact ⟨by rw [← hrs]; rfl, hb⟩

theorem zeroIntRun (w : World) : (zeroValue 3).run Tryd.prog w = .ok (.int .i64 0) w := by kernel_rfl

set_option maxRecDepth 100000 in
set_option maxHeartbeats 2000000 in
/-- A variable that has no number yet takes the next one. -/
theorem implBindN (mb : Nat) (vs : List ByteArray) (s : ByteArray) (w : World) (hm : MapS w mb (numF 0 vs)) :
    Calls Tryd.prog 68 #[.map (some mb), .string s, .int .i64 (vs.length : Nat)] w fun e w' => e = .returned (.tuple #[]) ∧ MapS w' mb (numF 0 (addNew vs s)) ∧ But mb w w' := by
  have hlk := hm.at_.look (P := Tryd.prog) Tryd.underlying67 Tryd.underlying9 (zeroIntRun _) s
  have hhas := idx_has s vs 0
  rw [find_num] at hlk
  cases hi : idxF s 0 vs with
  | none =>
    rw [hi] at hlk hhas
    have hput : addNew vs s = vs ++ [s] := addNew_new hhas.symm
    obtain ⟨w4, hrun, hm4, hg4, _⟩ := hm.store (P := Tryd.prog) Tryd.underlying67 Tryd.underlying9 s (.int .i64 (vs.length : Nat)) (by rw [find_num, hi]; rfl)
    rw [← num_snoc, ← hput] at hm4
    have hbut : But mb w w4 := ⟨hg4.os, hg4.tape, hg4.output, hg4.size, fun k hk hne => hg4.block k hk (fun e => hne (by injection e))⟩
    simp only [Option.map_none, Option.getD_none, Option.isSome_none] at hlk
    have HB := Lib.hid hbut
    have HS := Lib.hid hm4
    clear hput hm hhas hi hm4 hg4 hbut
    go_enter Tryd.func68, Tryd.ntmps68
    go_wp2
    go_end0
    exact ⟨rfl, HS.out, HB.out⟩
  | some i =>
    rw [hi] at hlk hhas
    have hput : addNew vs s = vs := addNew_old hhas.symm
    rw [← hput] at hm
    simp only [Option.map_some, Option.getD_some, Option.isSome_some] at hlk
    have HS := Lib.hid hm
    clear hput hm hhas hi
    go_enter Tryd.func68, Tryd.ntmps68
    go_wp2
    go_end0
    exact ⟨rfl, HS.out, ⟨rfl, rfl, rfl, Nat.le_refl _, fun _ _ _ => rfl⟩⟩
end Go.Proofs.YtngbilblddngcaaDoor

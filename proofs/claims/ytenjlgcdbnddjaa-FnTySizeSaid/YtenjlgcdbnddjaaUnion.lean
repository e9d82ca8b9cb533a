/- The program's Union and AllDistinct. -/
import Derived.Test.YtenjlgcdbnddjaaConcat
import Derived.Test.YtenjlgcdbnddjaaReserved
namespace Go.Proofs.Ytenjlgcdbnddjaa
open Go.RowKit Go.Lib

theorem Seen.below {P : Program} {k e : TypeId} {w w' : World} {b n : Nat} {l : List ByteArray} (h : Seen P k e w b n l) (hb : Below w.heap.size w w') : Seen P k e w' b n l :=
  h.kept (row := none) ⟨hb.os, hb.tape, hb.output, hb.size, fun j hj _ => hb.block j hj⟩ (by simp)
theorem own_wide {w : World} {B B' size n : Nat} {e : TypeId} {v : Value} {xs : List Value} (h : w.ownsRow B e size v n xs) (hB : B' ≤ B) : w.ownsRow B' e size v n xs := by
  refine ⟨h.1, ?_⟩
  rcases h.2 with hn | ⟨g, cap, cur, rfl, hbg, rest⟩
  · exact .inl hn
  · exact .inr ⟨g, cap, cur, rfl, by omega, rest⟩

set_option maxRecDepth 100000 in
set_option maxHeartbeats 2000000 in
theorem implUnion (A B : Option Addr) (c c' : Nat) (a b : List ByteArray) (w : World) (hA : Strs w A a) (hB : Strs w B b) (ha : a.length ≤ 4294967296) (hb : b.length ≤ 4294967296) (hz : ∀ x ∈ a ++ b, x.size ≤ 9223372036854775807) :
    Calls Try.prog 45 #[.slice A a.length c, .slice B b.length c'] w (RowOf (uniF [] (a ++ b)) w) := by
  obtain ⟨i0, hi, hz0, hz1, hz2⟩ := info_parts infoString
  have hmm := @run_makeMap Try.prog
  have hal : Below w.heap.size w ((w.alloc (.map #[] 0)).alloc (.cells #[.slice A a.length c, .slice B b.length c'] 30)) := ((Below.refl _ _).alloc (Nat.le_refl _) _).alloc (by simp) _
  have hs0 : Seen Try.prog 9 4 ((w.alloc (.map #[] 0)).alloc (.cells #[.slice A a.length c, .slice B b.length c'] 30)) w.heap.size 0 [] := (Seen.made w).below ((Below.refl _ _).alloc (Nat.le_refl _) _)
  have hg0 := Whole.new (w.alloc (.map #[] 0)) 30 #[.slice A a.length c, .slice B b.length c']
  rw [World.size_alloc] at hg0
  have hcc := slicesConcat A B c c' (w.heap.size + 1) a b _ (hA.below hal) (hB.below hal) hg0 ha hb
  have HC := Lib.hid hcc
  have HAL := Lib.hid hal
  have HS0 := Lib.hid hs0
  have HZ := Lib.hid hz
  clear hcc hal hs0 hg0 hA hB hz
  go_enter Try.func45, Try.ntmps45
  go_wp2_with fail
  refine HC.out.mono ?_
  rintro e w1 ⟨V, rfl, hownL, hb1⟩
  have hll : (a ++ b).length ≤ 8589934592 := by rw [List.length_append]; omega
  have hs1 := HS0.out.below hb1
  have hbw := HAL.out.trans (hb1.mono HAL.out.size)
  have hsz1 := hb1.size
  simp only [World.size_alloc] at hownL hsz1
  clear HC HAL HS0 hb1
  obtain ⟨L, hL⟩ : ∃ L, L = a ++ b := ⟨_, rfl⟩
  rw [← hL] at hownL hll HZ ⊢
  have HLQ := Lib.hid hL
  clear hL ha hb
  obtain ⟨AL, cL, rfl, hSL⟩ := strs_own hownL
  clear hSL
  go_wp2
  go_loopw [5, 15] (fun v i wr => ∃ (k : Nat) (d : List ByteArray), k ≤ L.length ∧ i = .int .i64 k ∧ d = uniF [] (L.take k) ∧ wr.ownsRow w1.heap.size 9 1 v d.length (d.map Value.string) ∧ Seen Try.prog 9 4 wr w.heap.size d.length d ∧
    wr.ownsRow (w.heap.size + 1 + 1) 9 1 (.slice AL L.length cL) L.length (L.map Value.string) ∧ w1.heap.size ≤ wr.heap.size ∧ Below w.heap.size w wr) (fun _ i _ => L.length - (Go.RowKit.intOf i).toNat)
  case atStart => exact ⟨0, [], Nat.zero_le _, rfl, rfl, World.ownsRow_nil _ _ _ _, hs1, hownL, Nat.le_refl _, hbw⟩
  case round =>
    have hlt1 : ∀ q, (Value.slice AL L.length cL).ownBlock = some q → q < w1.heap.size := fun q hq => (hownL.lt q hq).2
    have HLT1 := Lib.hid hlt1
    clear hownL hs1 hbw hlt1
    obtain ⟨k, d, hk, rfl, hd, hown, hseen, hownL, hsz, hbl⟩ := hrel
    have hdl : d.length ≤ 8589934592 := by
      have := uniF_len (L.take k) []
      rw [← hd] at this
      rw [List.length_take] at this
      simp at this
      omega
    by_cases hlt : k < L.length
    · obtain ⟨AL', cL', e, hSL⟩ := strs_own hownL
      injection e with e1 _ e3
      subst e1 e3
      obtain ⟨g, o, rfl, hc⟩ := hSL.at_ hlt
      obtain ⟨x, hx⟩ : ∃ x, x = L[k] := ⟨_, rfl⟩
      have hxs : x.size ≤ 9223372036854775807 := HZ.out x (by rw [hx]; exact List.getElem_mem hlt)
      have hst := uniF_take (acc := []) hlt
      rw [← hd, ← hx] at hst
      rw [← hx] at hc
      have hold := @addNew_old d x
      have hnew := @addNew_new d x
      rw [← hst] at hold hnew
      have HO := Lib.hid hold
      have HN := Lib.hid hnew
      clear hd hst hold hnew hx hSL
      have hlk := hseen.look Try.underlying81 Try.underlying9 Try.underlying4 (zeroBool _) x hxs
      cases hh : has d x with
      | true =>
        have h1 := HO.out hh
        have H1 := Lib.hid h1
        rw [hh] at hlk
        clear h1 hh
        go_wp2
        go_roundw
        case rel => exact ⟨k + 1, d, by omega, by go_num, H1.out.symm, hown, hseen, hownL, hsz, hbl⟩
        case measure => simp [Go.RowKit.intOf]; omega
      | false =>
        have h1 := HN.out hh
        have H1 := Lib.hid h1
        rw [hh] at hlk
        clear h1 hh
        obtain ⟨w2, e2, hs2, hg2⟩ := hseen.store Try.underlying81 Try.underlying9 Try.underlying4 (by omega) x hxs
        have hml : w.heap.size < w1.heap.size := by omega
        have hown2 := hown.kept hg2 (.inr fun e => by have := (hown.lt _ e).1; omega)
        have hownL2 := hownL.kept hg2 (.inr fun e => by have := (hownL.lt _ e).1; omega)
        have hbl2 : Below w.heap.size w w2 := hbl.grown hg2 hbl.size (fun j hj => by cases hj; exact Nat.le_refl _)
        have hsz2 : w1.heap.size ≤ w2.heap.size := Nat.le_trans hsz hg2.size

        go_wp2_with (at_builtin; refine wpList_append_own _ rfl _ _ 30 rfl w1.heap.size 9 i0 (.string ByteArray.empty) 1 16 Try.underlying30 hi hz0 hz1 hz2 rfl (by decide) _ _ _ rfl (hown2.alloc _) ⟨w2.heap.size, 0, none⟩ 1 1 [.string x] rfl rfl (news_one w2 _ _) (one_string _) (by unfold maxLen; omega) (by omega) (by simp; omega) ?_)
        intro v' w3 hown3 hgrow _
        have hall := (World.grownBy_alloc w2 _ _).trans hgrow
        have hb3 : Below w.heap.size w w3 := hbl2.grown hall hbl2.size (fun k hk => by have := (hown2.lt k hk).1; omega)
        have hs3 := hs2.kept hall (fun e => by have := (hown2.lt _ e.symm).1; omega)
        have hownL3 := hownL2.kept hall (.inr fun e => by have h1 := HLT1.out g rfl; have h2 := (hown2.lt g e.symm).1; omega)
        have hsz3 : w1.heap.size ≤ w3.heap.size := Nat.le_trans hsz2 hall.size
        rw [strs_map] at hown3
        go_wp2
        go_roundw
        case rel => exact ⟨k + 1, d ++ [x], by omega, by go_num, H1.out.symm, by simpa using hown3, by simpa using hs3, hownL3, hsz3, hb3⟩
        case measure => simp [Go.RowKit.intOf]; omega
    · have hkl : k = L.length := by omega
      subst hkl
      rw [List.take_length] at hd
      have HD := Lib.hid hd
      clear hd
      go_wp2
      go_ret
      rw [← HLQ.out, ← HD.out]
      exact ⟨_, rfl, own_wide hown (by omega), hbl⟩

set_option maxRecDepth 100000 in
set_option maxHeartbeats 1000000 in
theorem implDistinct (A : Option Addr) (c : Nat) (ss : List ByteArray) (w : World) (hA : Strs w A ss) (hn : ss.length ≤ 4294967296) (hz : ∀ x ∈ ss, x.size ≤ 9223372036854775807) :
    Calls Try.prog 24 #[.slice A ss.length c] w fun e w' => e = .returned (.bool (distinct ss)) ∧ Below w.heap.size w w' := by
  have hu := implUnion A none c 0 ss [] w hA (.inl rfl) hn (by simp) (by rw [List.append_nil]; exact hz)
  rw [List.append_nil, List.length_nil] at hu
  have HU := Lib.hid hu
  clear hu hA hz
  go_enter Try.func24, Try.ntmps24
  go_wp2_with fail
  refine HU.out.mono ?_
  rintro e w1 ⟨V, rfl, hown, hb⟩
  obtain ⟨d, hd⟩ : ∃ d, d = uniF [] ss := ⟨_, rfl⟩
  rw [← hd] at hown
  obtain ⟨A1, c1, rfl, _⟩ := strs_own hown
  clear hown HU
  go_wp2
  go_ret
  refine ⟨congrArg (fun b => Ending.returned (.bool b)) ?_, hb⟩
  rw [distinct, ← hd, Bool.eq_iff_iff]
  simp
  try omega
end Go.Proofs.Ytenjlgcdbnddjaa

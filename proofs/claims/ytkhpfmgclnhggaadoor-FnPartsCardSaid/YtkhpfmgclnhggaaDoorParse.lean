/- The program's reading of a numeral: 'mustParse' returns the number or panics; ParseNumber and ParseInt recover. -/
import Derived.Test.YtkhpfmgclnhggaaDoorRead
import Derived.Test.YtkhpfmgclnhggaaDoorItoa
import Derived.Test.YtkhpfmgclnhggaaDoorShelfAtoi
import Derived.Lib.AtoiAllCases
import Derived.Lib.AtoiErrMem
import Derived.Outline
import Derived.Defers
import Derived.Recover
import Derived.Laws.Pointers
namespace Go.Proofs.YtkhpfmgclnhggaaDoor
open Go.RowKit Go.Lib

/-- The two error values of package strconv are there. -/
structure Errs (w : World) : Prop where
  syn : ∃ tp p, w.var? Tryd.prog "strconv.ErrSyntax" = some #[.iface tp p]
  ran : ∃ tp p, w.var? Tryd.prog "strconv.ErrRange" = some #[.iface tp p]
theorem Errs.below {w w' : World} (h : Errs w) (hb : Below w.heap.size w w') : Errs w' :=
  ⟨h.syn.imp fun _ h => h.imp fun _ h => var_kept hb h, h.ran.imp fun _ h => h.imp fun _ h => var_kept hb h⟩

theorem atoiOk (s : ByteArray) (hmax : s.size ≤ 9223372036854775806) (v : Int) (h : atoiAll s.data.toList = .ok v) (w : World) :
    Calls Tryd.prog 41 #[.string s] w fun e w' => e = .returned (.tuple #[.int .i64 v, .nilIface]) ∧ Below w.heap.size w w' := by
  refine (Tryd.strconv_Atoi_ok s hmax v h w).mono ?_
  rintro e w' ⟨rfl, rfl | ⟨t, rfl⟩⟩
  · exact ⟨rfl, Below.refl _ _⟩
  · exact ⟨rfl, bytesWorld_below w _ t⟩
/-- Where it is no numeral: some number, and an error that is not nil. -/
def Failed (w : World) (e : Ending) (w' : World) : Prop := ∃ (n : Int) (N : Nat), -9223372036854775808 ≤ n ∧ n ≤ 9223372036854775807 ∧ e = .returned (.tuple #[.int .i64 n, .iface 77 (.pointer (some ⟨N, 0, none⟩))]) ∧ Below w.heap.size w w'
theorem atoiBad (s : ByteArray) (hlim : s.size ≤ 281474976710656) (h : ∀ v, atoiAll s.data.toList ≠ .ok v) (w : World) (he : Errs w) : Calls Tryd.prog 41 #[.string s] w (Failed w) := by
  obtain ⟨⟨t1, p1, h1⟩, ⟨t2, p2, h2⟩⟩ := he
  cases hh : atoiAll s.data.toList with
  | ok v => exact absurd hh (h v)
  | range =>
    refine (Tryd.strconv_Atoi_range_var s hlim hh t2 p2 w h2).mono ?_
    rintro e w' ⟨N, rfl, _, _, hb⟩
    have := atoiSat_bounds s.data.toList
    exact ⟨_, N, this.1, this.2, rfl, hb⟩
  | _ =>
    have c : Calls Tryd.prog 41 #[.string s] w fun e w' => ∃ N, e = .returned (.tuple #[.int .i64 0, .iface 77 (.pointer (some ⟨N, 0, none⟩))]) ∧ _ ∧ _ ∧ Below w.heap.size w w' :=
      Any.strconv_Atoi_syntax_var Tryd.laysC172 s hlim hh t1 p1 w h1
    refine c.mono ?_
    rintro e w' ⟨N, rfl, _, _, hb⟩
    exact ⟨0, N, by decide, by decide, rfl, hb⟩

/-- The panic of a malformed integer. -/
def malformed : List PanicEntry := [{ v := .iface 9 (.string ⟨#[109, 97, 108, 102, 111, 114, 109, 101, 100, 32, 105, 110, 116, 101, 103, 101, 114]⟩), recovered := false }]

set_option maxRecDepth 100000 in
set_option maxHeartbeats 400000 in
theorem mustYes (s : ByteArray) (n low high : Int) (w : World) (hs : itoa n = s.data.toList) (h0 : -9223372036854775808 ≤ n) (h1 : n ≤ 9223372036854775807) (hl : low ≤ n) (hh : n ≤ high) (hmax : s.size ≤ 2097152) (hp : Pow w) :
    Calls Tryd.prog 30 #[.string s, .int .i64 low, .int .i64 high] w fun e w' => e = .returned (.int .i64 n) ∧ Below w.heap.size w w' := by
  have ha : atoiAll s.data.toList = .ok n := by rw [← hs]; exact atoi_itoa n h0 h1
  have hstr : (⟨(itoa n).toArray⟩ : ByteArray) = s := by rw [hs]
  have HA := Lib.hid ha
  have HS := Lib.hid hs
  have HT := Lib.hid hstr
  clear ha hs hstr
  go_enter Tryd.func30, Tryd.ntmps30
  go_wp2_with fail
  refine (atoiOk s (by omega) n HA.out _).mono ?_
  rintro e w1 ⟨rfl, hb1⟩
  have hp1 := hp.below hb1
  go_wp2_with fail
  refine (implFmt n _ h0 h1 hp1).mono ?_
  rintro e w2 ⟨rfl, hb2⟩
  have hb := hb1.trans (hb2.mono hb1.size)
  rw [HT.out]
  go_wp2
  go_ret
  exact ⟨rfl, hb⟩

set_option maxRecDepth 100000 in
set_option maxHeartbeats 400000 in
theorem mustNo1 (s : ByteArray) (low high : Int) (w : World) (hno : ∀ v, atoiAll s.data.toList ≠ .ok v) (hmax : s.size ≤ 2097152) (he : Errs w) :
    Calls Tryd.prog 30 #[.string s, .int .i64 low, .int .i64 high] w fun e w' => e = .panicked malformed ∧ Below w.heap.size w w' := by
  have HA := Lib.hid hno
  clear hno
  go_enter Tryd.func30, Tryd.ntmps30
  go_wp2_with fail
  refine (atoiBad s (by omega) HA.out _ he).mono ?_
  rintro e w1 ⟨n, N, hn0, hn1, rfl, hb1⟩
  go_wp2
  exact ⟨rfl, rfl, hb1⟩

set_option maxRecDepth 100000 in
set_option maxHeartbeats 400000 in
theorem mustNo2 (s : ByteArray) (low high n : Int) (w : World) (ha : atoiAll s.data.toList = .ok n) (hno : ∀ n, low ≤ n → n ≤ high → itoa n ≠ s.data.toList) (hmax : s.size ≤ 2097152) (hp : Pow w) :
    Calls Tryd.prog 30 #[.string s, .int .i64 low, .int .i64 high] w fun e w' => e = .panicked malformed ∧ Below w.heap.size w w' := by
  have hbd := atoiAll_bounds ha
  have hn := hno n
  have HA := Lib.hid ha
  clear hno ha
  by_cases hs : itoa n = s.data.toList
  · have hstr : (⟨(itoa n).toArray⟩ : ByteArray) = s := by rw [hs]
    have hout : n < low ∨ high < n := by
      by_cases h : n < low
      · exact .inl h
      · exact .inr (by
          by_cases h2 : high < n
          · exact h2
          · exact absurd hs (hn (by omega) (by omega)))
    have HT := Lib.hid hstr
    clear hs hstr hn
    rcases hout with hout | hout
    all_goals
      go_enter Tryd.func30, Tryd.ntmps30
      go_wp2_with fail
      refine (atoiOk s (by omega) n HA.out _).mono ?_
      rintro e w1 ⟨rfl, hb1⟩
      have hp1 := hp.below hb1
      go_wp2_with fail
      refine (implFmt n _ hbd.1 hbd.2 hp1).mono ?_
      rintro e w2 ⟨rfl, hb2⟩
      have hb := hb1.trans (hb2.mono hb1.size)
      rw [HT.out]
      go_wp2
      all_goals exact ⟨rfl, rfl, hb⟩
  · have hne : ¬ itoa n = s.toList := by rw [ByteArray.toList_eq]; exact hs
    clear hs hn
    go_enter Tryd.func30, Tryd.ntmps30
    go_wp2_with fail
    refine (atoiOk s (by omega) n HA.out _).mono ?_
    rintro e w1 ⟨rfl, hb1⟩
    have hp1 := hp.below hb1
    go_wp2_with fail
    refine (implFmt n _ hbd.1 hbd.2 hp1).mono ?_
    rintro e w2 ⟨rfl, hb2⟩
    have hb := hb1.trans (hb2.mono hb1.size)
    go_wp2
    exact ⟨rfl, rfl, hb⟩

/-- WHERE NO NUMBER BETWEEN low AND high IS SO SPELT: the panic. -/
theorem mustNo (s : ByteArray) (low high : Int) (w : World) (hno : ∀ n, low ≤ n → n ≤ high → itoa n ≠ s.data.toList) (hmax : s.size ≤ 2097152) (hp : Pow w) (he : Errs w) :
    Calls Tryd.prog 30 #[.string s, .int .i64 low, .int .i64 high] w fun e w' => e = .panicked malformed ∧ Below w.heap.size w w' := by
  by_cases h : ∃ n, atoiAll s.data.toList = .ok n
  · obtain ⟨n, hn⟩ := h
    exact mustNo2 s low high n w hn hno hmax hp
  · exact mustNo1 s low high w (fun v hv => h ⟨v, hv⟩) hmax he

/- THE DEFERRED FUNCTIONS. -/
theorem catchParseNumber (p q : Addr) (x : Int) (b : Bool) (u : TypeId) (pv : Value) (older : List PanicEntry) (w : World) (hpq : p ≠ q) (hc : w.cell? p = some (.int .i64 x)) (hz : w.frozen? p = false) (hd : w.cell? q = some (.bool b)) (hy : w.frozen? q = false) :
    CallsD Tryd.prog 31 #[.pointer (some p), .pointer (some q)] (.panicking ({ v := .iface u pv, recovered := false } :: older)) w fun e u' w' =>
      e = .returned (.tuple #[]) ∧ u' = .panicking ({ v := .iface u pv, recovered := true } :: older) ∧ w' = (w.setCell p (.int .i64 0)).setCell q (.bool false) := by
  have hd' : (w.setCell p (.int .i64 0)).cell? q = some (.bool b) := (World.cell?_setCell_other w p q _ hpq).trans hd
  refine callsD_of_wpS Tryd.func31 rfl fun c₀ cs hu => ?_
  apply wpS_seq
  apply wpS_region
  simp [wpOpsS, go_sem, recoverD, hu, Tryd.ntmps31, Exit.thenS]
  refine wpS_cond (t := true) (by simp [Act.eval, Array.replicate]) ?_
  simp only [if_true]
  apply wpS_region
  simp [wpOpsS, go_sem, hc, hz, hd', hy, bodyPostS, results, Tryd.results31]

theorem idleParseNumber (p q : Addr) (w : World) :
    CallsD Tryd.prog 31 #[.pointer (some p), .pointer (some q)] .returning w fun e u' w' => e = .returned (.tuple #[]) ∧ u' = .returning ∧ w' = w := by
  refine callsD_of_wpS Tryd.func31 rfl fun c₀ cs hu => ?_
  apply wpS_seq
  apply wpS_region
  simp [wpOpsS, go_sem, recoverD, hu, Tryd.ntmps31, Exit.thenS]
  refine wpS_cond (t := false) (by simp [Act.eval, Array.replicate]) ?_
  simp only [Bool.false_eq_true, if_false]
  refine wpS_of_wp (wp_skip ?_)
  cases c₀
  simp_all [bodyPostS, results, Tryd.results31]

set_option maxRecDepth 100000 in
set_option maxHeartbeats 400000 in
theorem yesParseNumber (s : ByteArray) (n : Int) (w : World) (hs : itoa n = s.data.toList) (hl : 0 ≤ n) (hh : n ≤ 999999) (hmax : s.size ≤ 2097152) (hp : Pow w) :
    Calls Tryd.prog 13 #[.string s] w fun e w' => e = .returned (.tuple #[.int .i64 n, .bool true]) ∧ Below w.heap.size w w' := by
  have hmf : ∀ (fn : Fn) (first cap : Array Value) (w : World), (Instr.makeFunc fn first cap).run Tryd.prog w = .ok (.func fn first cap) w := fun _ _ _ _ => rfl
  have HS := Lib.hid hs
  clear hs
  have hb0 : Below w.heap.size w ((w.alloc (.cells #[.int .i64 0] 3)).alloc (.cells #[.bool false] 4)) := ((Below.refl _ _).alloc (Nat.le_refl _) _).alloc (by simp) _
  go_enter_defers Tryd.func13, Tryd.ntmps13
  go_wp2_with fail
  refine (mustYes s n _ _ _ HS.out (by omega) (by omega) hl hh hmax (hp.below hb0)).mono ?_
  rintro e w1 ⟨rfl, hb1⟩
  obtain ⟨c1, z1, c2, z2, hb, hz⟩ := two_cells hb1
  go_wp2
  refine leaves_cons (f := 31) (args := #[.pointer (some ⟨w.heap.size, 0, none⟩), .pointer (some ⟨w.heap.size + 1, 0, none⟩)]) (by simp) (by simp [go_sem]) ?_
  refine (idleParseNumber ⟨w.heap.size, 0, none⟩ ⟨w.heap.size + 1, 0, none⟩ _).mono ?_
  rintro e u' w'' ⟨rfl, rfl, rfl⟩
  obtain ⟨r1, r2, hend⟩ := two_set (u := .int .i64 n) (v := .bool true) c1 c2 hb rfl
  have HE := Lib.hid hend
  simp [Leaves, settle, results, Tryd.results13, go_sem, r1, r2]
  exact HE.out

set_option maxRecDepth 100000 in
set_option maxHeartbeats 400000 in
theorem noParseNumber (s : ByteArray) (w : World) (hno : ∀ n, 0 ≤ n → n ≤ 999999 → itoa n ≠ s.data.toList) (hmax : s.size ≤ 2097152) (hp : Pow w) (he : Errs w) :
    Calls Tryd.prog 13 #[.string s] w fun e w' => e = .returned (.tuple #[.int .i64 0, .bool false]) ∧ Below w.heap.size w w' := by
  have hmf : ∀ (fn : Fn) (first cap : Array Value) (w : World), (Instr.makeFunc fn first cap).run Tryd.prog w = .ok (.func fn first cap) w := fun _ _ _ _ => rfl
  have HN := Lib.hid hno
  clear hno
  have hb0 : Below w.heap.size w ((w.alloc (.cells #[.int .i64 0] 3)).alloc (.cells #[.bool false] 4)) := ((Below.refl _ _).alloc (Nat.le_refl _) _).alloc (by simp) _
  go_enter_defers Tryd.func13, Tryd.ntmps13
  go_wp2_with fail
  refine (mustNo s _ _ _ HN.out hmax (hp.below hb0) (he.below hb0)).mono ?_
  rintro e w1 ⟨rfl, hb1⟩
  obtain ⟨c1, z1, c2, z2, hb, hz⟩ := two_cells hb1
  go_wp2
  refine leaves_cons (f := 31) (args := #[.pointer (some ⟨w.heap.size, 0, none⟩), .pointer (some ⟨w.heap.size + 1, 0, none⟩)]) (by simp) (by simp [go_sem]) ?_
  refine (catchParseNumber ⟨w.heap.size, 0, none⟩ ⟨w.heap.size + 1, 0, none⟩ 0 false _ _ _ _ (by intro e; injection e with e; omega) c1 z1 c2 z2).mono ?_
  rintro e u' w'' ⟨rfl, rfl, rfl⟩
  obtain ⟨r1, r2, hend⟩ := two_set (u := .int .i64 0) (v := .bool false) c1 c2 hb rfl
  have HE := Lib.hid hend
  simp [Leaves, settle, results, Tryd.results13, go_sem, r1, r2]
  exact HE.out

theorem catchParseInt (p q : Addr) (x : Int) (b : Bool) (u : TypeId) (pv : Value) (older : List PanicEntry) (w : World) (hpq : p ≠ q) (hc : w.cell? p = some (.int .i64 x)) (hz : w.frozen? p = false) (hd : w.cell? q = some (.bool b)) (hy : w.frozen? q = false) :
    CallsD Tryd.prog 29 #[.pointer (some p), .pointer (some q)] (.panicking ({ v := .iface u pv, recovered := false } :: older)) w fun e u' w' =>
      e = .returned (.tuple #[]) ∧ u' = .panicking ({ v := .iface u pv, recovered := true } :: older) ∧ w' = (w.setCell p (.int .i64 0)).setCell q (.bool false) := by
  have hd' : (w.setCell p (.int .i64 0)).cell? q = some (.bool b) := (World.cell?_setCell_other w p q _ hpq).trans hd
  refine callsD_of_wpS Tryd.func29 rfl fun c₀ cs hu => ?_
  apply wpS_seq
  apply wpS_region
  simp [wpOpsS, go_sem, recoverD, hu, Tryd.ntmps29, Exit.thenS]
  refine wpS_cond (t := true) (by simp [Act.eval, Array.replicate]) ?_
  simp only [if_true]
  apply wpS_region
  simp [wpOpsS, go_sem, hc, hz, hd', hy, bodyPostS, results, Tryd.results29]

theorem idleParseInt (p q : Addr) (w : World) :
    CallsD Tryd.prog 29 #[.pointer (some p), .pointer (some q)] .returning w fun e u' w' => e = .returned (.tuple #[]) ∧ u' = .returning ∧ w' = w := by
  refine callsD_of_wpS Tryd.func29 rfl fun c₀ cs hu => ?_
  apply wpS_seq
  apply wpS_region
  simp [wpOpsS, go_sem, recoverD, hu, Tryd.ntmps29, Exit.thenS]
  refine wpS_cond (t := false) (by simp [Act.eval, Array.replicate]) ?_
  simp only [Bool.false_eq_true, if_false]
  refine wpS_of_wp (wp_skip ?_)
  cases c₀
  simp_all [bodyPostS, results, Tryd.results29]

set_option maxRecDepth 100000 in
set_option maxHeartbeats 400000 in
theorem yesParseInt (s : ByteArray) (n : Int) (w : World) (hs : itoa n = s.data.toList) (hl : -999999999999 ≤ n) (hh : n ≤ 999999999999) (hmax : s.size ≤ 2097152) (hp : Pow w) :
    Calls Tryd.prog 12 #[.string s] w fun e w' => e = .returned (.tuple #[.int .i64 n, .bool true]) ∧ Below w.heap.size w w' := by
  have hmf : ∀ (fn : Fn) (first cap : Array Value) (w : World), (Instr.makeFunc fn first cap).run Tryd.prog w = .ok (.func fn first cap) w := fun _ _ _ _ => rfl
  have HS := Lib.hid hs
  clear hs
  have hb0 : Below w.heap.size w ((w.alloc (.cells #[.int .i64 0] 3)).alloc (.cells #[.bool false] 4)) := ((Below.refl _ _).alloc (Nat.le_refl _) _).alloc (by simp) _
  go_enter_defers Tryd.func12, Tryd.ntmps12
  go_wp2_with fail
  refine (mustYes s n _ _ _ HS.out (by omega) (by omega) hl hh hmax (hp.below hb0)).mono ?_
  rintro e w1 ⟨rfl, hb1⟩
  obtain ⟨c1, z1, c2, z2, hb, hz⟩ := two_cells hb1
  go_wp2
  refine leaves_cons (f := 29) (args := #[.pointer (some ⟨w.heap.size, 0, none⟩), .pointer (some ⟨w.heap.size + 1, 0, none⟩)]) (by simp) (by simp [go_sem]) ?_
  refine (idleParseInt ⟨w.heap.size, 0, none⟩ ⟨w.heap.size + 1, 0, none⟩ _).mono ?_
  rintro e u' w'' ⟨rfl, rfl, rfl⟩
  obtain ⟨r1, r2, hend⟩ := two_set (u := .int .i64 n) (v := .bool true) c1 c2 hb rfl
  have HE := Lib.hid hend
  simp [Leaves, settle, results, Tryd.results12, go_sem, r1, r2]
  exact HE.out

set_option maxRecDepth 100000 in
set_option maxHeartbeats 400000 in
theorem noParseInt (s : ByteArray) (w : World) (hno : ∀ n, -999999999999 ≤ n → n ≤ 999999999999 → itoa n ≠ s.data.toList) (hmax : s.size ≤ 2097152) (hp : Pow w) (he : Errs w) :
    Calls Tryd.prog 12 #[.string s] w fun e w' => e = .returned (.tuple #[.int .i64 0, .bool false]) ∧ Below w.heap.size w w' := by
  have hmf : ∀ (fn : Fn) (first cap : Array Value) (w : World), (Instr.makeFunc fn first cap).run Tryd.prog w = .ok (.func fn first cap) w := fun _ _ _ _ => rfl
  have HN := Lib.hid hno
  clear hno
  have hb0 : Below w.heap.size w ((w.alloc (.cells #[.int .i64 0] 3)).alloc (.cells #[.bool false] 4)) := ((Below.refl _ _).alloc (Nat.le_refl _) _).alloc (by simp) _
  go_enter_defers Tryd.func12, Tryd.ntmps12
  go_wp2_with fail
  refine (mustNo s _ _ _ HN.out hmax (hp.below hb0) (he.below hb0)).mono ?_
  rintro e w1 ⟨rfl, hb1⟩
  obtain ⟨c1, z1, c2, z2, hb, hz⟩ := two_cells hb1
  go_wp2
  refine leaves_cons (f := 29) (args := #[.pointer (some ⟨w.heap.size, 0, none⟩), .pointer (some ⟨w.heap.size + 1, 0, none⟩)]) (by simp) (by simp [go_sem]) ?_
  refine (catchParseInt ⟨w.heap.size, 0, none⟩ ⟨w.heap.size + 1, 0, none⟩ 0 false _ _ _ _ (by intro e; injection e with e; omega) c1 z1 c2 z2).mono ?_
  rintro e u' w'' ⟨rfl, rfl, rfl⟩
  obtain ⟨r1, r2, hend⟩ := two_set (u := .int .i64 0) (v := .bool false) c1 c2 hb rfl
  have HE := Lib.hid hend
  simp [Leaves, settle, results, Tryd.results12, go_sem, r1, r2]
  exact HE.out
end Go.Proofs.YtkhpfmgclnhggaaDoor

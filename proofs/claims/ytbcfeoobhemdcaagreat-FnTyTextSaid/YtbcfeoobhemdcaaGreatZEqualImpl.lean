/- The program's EqualSExpr, which keeps two stacks of its own. -/
import Derived.Test.YtbcfeoobhemdcaaGreatQ1
import Derived.Test.YtbcfeoobhemdcaaGreatQ2
import Derived.Deep.LoopGhost
import Derived.Deep.CutRange
import Derived.RegionTactic
import Derived.Deep.RegionLaw
import Derived.Deep.AppendLies
import Derived.Lib.QuietBelow
import Derived.BigQuiet
namespace Go.Proofs.YtbcfeoobhemdcaaGreat
open Go.RowKit Go.Lib

theorem Elems.length {w : World} {P : Nat → Prop} : ∀ {l : List SX} {vs : List Value}, Elems w P l vs → vs.length = l.length * 2
  | [], vs, h => by rw [Elems] at h; subst h; rfl
  | x :: r, vs, h => by
    obtain ⟨A, c, rest, rfl, _, h2⟩ := h
    rw [List.length_cons, List.length_cons, List.length_cons, h2.length]; omega
theorem Elems.last {w : World} {P : Nat → Prop} : ∀ {l : List SX} {x : SX} {vs : List Value}, Elems w P (l ++ [x]) vs → ∃ vs0 A c, vs = vs0 ++ [.string x.atom, .slice A x.list.length c] ∧ Elems w P l vs0 ∧ ListAt w P A x.list
  | [], x, vs, h => by
    obtain ⟨A', c', rest, rfl, h1, h2⟩ := h
    rw [Elems] at h2; subst h2
    exact ⟨[], A', c', rfl, rfl, h1⟩
  | y :: r, x, vs, h => by
    obtain ⟨A', c', rest, rfl, h1, h2⟩ := h
    obtain ⟨vs0, A, c, rfl, h3, h4⟩ := Elems.last (l := r) h2
    exact ⟨_ :: _ :: vs0, A, c, rfl, ⟨A', c', vs0, rfl, h1, h3⟩, h4⟩
theorem Elems.append {w : World} {P : Nat → Prop} : ∀ {l : List SX} {vs : List Value}, Elems w P l vs → ∀ {m : List SX} {us : List Value}, Elems w P m us → Elems w P (l ++ m) (vs ++ us)
  | [], vs, h, m, us, hm => by rw [Elems] at h; subst h; exact hm
  | y :: r, vs, h, m, us, hm => by
    obtain ⟨A', c', rest, rfl, h1, h2⟩ := h
    exact ⟨A', c', rest ++ us, rfl, h1, h2.append hm⟩
/-- The cells of a list that is read. -/
theorem RdE_cells {w : World} {P : Nat → Prop} : ∀ (l : List SX) (b o : Nat), RdE w P l b o → ∃ us : List Value, Elems w P l us ∧ (∀ u ∈ us, u.oneCell' = true) ∧ ∀ (j : Nat) (u : Value), us[j]? = some u → w.cell? ⟨b, o + j, none⟩ = some u
  | [], b, o, _ => ⟨[], rfl, by simp, by simp⟩
  | x :: r, b, o, h => by
    rw [RdE] at h
    obtain ⟨us, h1, h2, h3⟩ := RdE_cells r b (o + 2) h.2
    obtain ⟨g0, A, c, g1, gl⟩ := RdX_iff.1 h.1
    refine ⟨.string x.atom :: .slice A x.list.length c :: us, ⟨A, c, us, rfl, gl, h1⟩, ?_, ?_⟩
    · intro u hu
      simp at hu
      rcases hu with rfl | rfl | hu
      · rfl
      · rfl
      · exact h2 u hu
    · intro j u hj
      match j, hj with
      | 0, hj => simp at hj; subst hj; exact g0
      | 1, hj => simp at hj; subst hj; exact g1
      | j + 2, hj =>
        have := h3 j u (by simpa using hj)
        rw [show o + (j + 2) = o + 2 + j by omega]
        exact this
theorem ListAt.cells {w : World} {P : Nat → Prop} {A : Option Addr} {l : List SX} (h : ListAt w P A l) :
    ∃ us : List Value, Elems w P l us ∧ us.length = l.length * 2 ∧ (∀ u ∈ us, u.oneCell' = true) ∧ (l.length = 0 ∨ ∃ b o, A = some ⟨b, o, none⟩ ∧ P b ∧ ∀ (j : Nat) (u : Value), us[j]? = some u → w.cell? ⟨b, o + j, none⟩ = some u) := by
  rcases h with rfl | ⟨b, o, rfl, hP, hr⟩
  · exact ⟨[], rfl, rfl, by simp, .inl rfl⟩
  · obtain ⟨us, h1, h2, h3⟩ := RdE_cells l b o hr
    exact ⟨us, h1, h1.length, h2, .inr ⟨b, o, rfl, hP, h3⟩⟩
theorem sumL_snoc : ∀ (l : List SX) (x : SX), SX.nodesL (l ++ [x]) = SX.nodesL l + x.nodes
  | [], x => by simp [SX.nodesL]
  | y :: r, x => by rw [List.cons_append, SX.nodesL, SX.nodesL, sumL_snoc r x]; omega
theorem sumL_append : ∀ (l m : List SX), SX.nodesL (l ++ m) = SX.nodesL l + SX.nodesL m
  | [], m => by simp [SX.nodesL]
  | y :: r, m => by rw [List.cons_append, SX.nodesL, SX.nodesL, sumL_append r m]; omega
/-- The same cells, in a world that has grown. -/
theorem cells_in {w w' : World} {B : Nat} {A : Option Addr} {n : Nat} {us : List Value} (hb : Below B w w') (h : n = 0 ∨ ∃ b o, A = some ⟨b, o, none⟩ ∧ Lt B b ∧ ∀ (j : Nat) (u : Value), us[j]? = some u → w.cell? ⟨b, o + j, none⟩ = some u) :
    n = 0 ∨ ∃ ad, A = some ad ∧ ∀ (j : Nat) (u : Value), us[j]? = some u → w'.cell? (ad.add j) = some u := by
  rcases h with h | ⟨b, o, rfl, hP, h3⟩
  · exact .inl h
  · refine .inr ⟨_, rfl, fun j u hj => ?_⟩
    rw [Go.WideShapes.add_plain]
    exact (hb.cell (p := ⟨b, o + j, none⟩) hP).trans (h3 j u hj)
theorem pop_eq {ls ms : List SX} {p q : SX} {Q : Prop} (h : Q ↔ ls ++ [p] = ms ++ [q]) (hl : ls.length = ms.length) : (p.atom = q.atom → p.list.length = q.list.length → (Q ↔ ls ++ p.list = ms ++ q.list)) ∧ (p.atom ≠ q.atom ∨ p.list.length ≠ q.list.length → ¬ Q) := by
  cases p with | mk a l => cases q with | mk b m =>
  constructor
  · intro ha hn
    rw [h]
    simp only [SX.atom, SX.list] at ha hn ⊢
    subst ha
    constructor
    · intro e
      obtain ⟨e1, e2⟩ := List.append_inj e hl
      simp at e2
      rw [e1, e2]
    · intro e
      obtain ⟨e1, e2⟩ := List.append_inj e hl
      rw [e1, e2]
  · intro hne hq
    obtain ⟨_, e2⟩ := List.append_inj (h.1 hq) hl
    simp at e2
    rcases hne with h | h
    · exact h e2.1
    · exact h (by simp only [SX.list]; rw [e2.2])

theorem two_boxes {w : World} {T : TypeId} (ca cb : Array Value) :
    Whole (((w.alloc (.cells ca T)).alloc (.cells cb T)).drew) w.heap.size T ca ∧ Whole (((w.alloc (.cells ca T)).alloc (.cells cb T)).drew) (w.heap.size + 1) T cb := by
  constructor
  · exact ((Whole.new w T ca).below ((Below.refl _ _).alloc (Nat.le_refl _) _) (by simp) : Whole ((w.alloc (.cells ca T)).alloc (.cells cb T)) w.heap.size T ca)
  · have h := Whole.new (w.alloc (.cells ca T)) T cb
    rw [World.size_alloc] at h
    exact h
theorem two_rows {w : World} {T : TypeId} {B : Nat} (a b c d : Value) (hB : B ≤ w.heap.size) :
    (((w.alloc (.cells #[a, b] T)).alloc (.cells #[c, d] T)).drew).ownsRow B T 2 (.slice (some ⟨w.heap.size, 0, none⟩) 1 1) 1 [a, b] ∧ (((w.alloc (.cells #[a, b] T)).alloc (.cells #[c, d] T)).drew).ownsRow B T 2 (.slice (some ⟨w.heap.size + 1, 0, none⟩) 1 1) 1 [c, d] := by
  constructor
  · exact ((World.ownsRow_lit w #[a, b] 1 hB (by decide) rfl).alloc _ : ((w.alloc (.cells #[a, b] T)).alloc (.cells #[c, d] T)).ownsRow B T 2 (.slice (some ⟨w.heap.size, 0, none⟩) 1 1) 1 [a, b])
  · have h := World.ownsRow_lit (base := B) (size := 2) (e := T) (w.alloc (.cells #[a, b] T)) #[c, d] 1 (by simp; omega) (by decide) rfl
    rw [World.size_alloc] at h
    exact h

theorem cells2' {w : World} {g : Nat} {t : TypeId} {a b : Value} (h : Whole w g t #[a, b]) : w.cell? ⟨g, 0, none⟩ = some a ∧ w.cell? ⟨g, 1, none⟩ = some b := ⟨by rw [h.cell]; rfl, by rw [h.cell]; rfl⟩
theorem sumL_length : ∀ l : List SX, l.length ≤ SX.nodesL l
  | [] => by simp
  | x :: r => by have := sumL_length r; have := SX.nodes_eq x; rw [SX.nodesL, List.length_cons]; omega
set_option maxRecDepth 100000 in
set_option maxHeartbeats 2000000 in
theorem implElements (s : ByteArray) (A : Option Addr) (n c : Nat) (w : World) :
    Calls Tryz.prog 67 #[.agg #[.string s, .slice A n c]] w fun e w' => e = .returned (.slice A n c) ∧ Below w.heap.size w w' := by
  go_enter Tryz.func67, Tryz.ntmps67
  go_wp2
  go_ret
  exact ⟨rfl, (Below.refl _ _).alloc (Nat.le_refl _) _⟩
set_option maxRecDepth 100000 in
set_option maxHeartbeats 2000000 in
theorem implRootX (s s' : ByteArray) (A B : Option Addr) (n c m d : Nat) (w : World) :
    Calls Tryz.prog 66 #[.agg #[.string s, .slice A n c], .agg #[.string s', .slice B m d]] w fun e w' => e = .returned (.bool (decide (s = s'))) ∧ Below w.heap.size w w' := by
  have hb0 : Below w.heap.size w ((w.alloc (.cells #[.string s, .slice A n c] 33)).alloc (.cells #[.string s', .slice B m d] 33)) := ((Below.refl _ _).alloc (Nat.le_refl _) _).alloc (by simp) _
  by_cases hs : s = s'
  · have he1 : (s.toList == s'.toList) = true := by rw [hs]; simp
    have HS := Lib.hid (decide_eq_true hs)
    clear hs
    go_enter Tryz.func66, Tryz.ntmps66
    go_wp2
    go_ret
    exact ⟨congrArg (fun b => Ending.returned (.bool b)) HS.out.symm, hb0⟩
  · have he1 : (s.toList == s'.toList) = false := bytes_ne hs
    have HS := Lib.hid (decide_eq_false hs)
    clear hs
    go_enter Tryz.func66, Tryz.ntmps66
    go_wp2
    go_ret
    exact ⟨congrArg (fun b => Ending.returned (.bool b)) HS.out.symm, hb0⟩

set_option maxRecDepth 100000 in
set_option maxHeartbeats 8000000 in
theorem implTreesX (x y : SX) (A B : Option Addr) (c d : Nat) (w : World) (hx : x.nodes ≤ 4294967296) (hA : ListAt w (Lt w.heap.size) A x.list) (hB : ListAt w (Lt w.heap.size) B y.list) :
    Calls Tryz.prog 65 #[.agg #[.string x.atom, .slice A x.list.length c], .agg #[.string y.atom, .slice B y.list.length d], .func (.func 66) #[] #[], .func (.func 67) #[] #[]] w
      fun e w' => e = .returned (.bool (x.same y)) ∧ Below w.heap.size w w' := by
  obtain ⟨i0, hi, hz0, hz1, hz2⟩ := info_parts infoSx
  have hea : Elems w (Lt w.heap.size) [x] [.string x.atom, .slice A x.list.length c] := ⟨A, c, [], rfl, hA, rfl⟩
  have heb : Elems w (Lt w.heap.size) [y] [.string y.atom, .slice B y.list.length d] := ⟨B, d, [], rfl, hB, rfl⟩
  have HEA := Lib.hid hea
  have HEB := Lib.hid heb
  clear hA hB hea heb
  go_enter Tryz.func65, Tryz.ntmps65
  go_upto_region 1 with (fail)
  go_cut [9, 10] from 16 to 19 (fun va vb wc => wc.ownsRow (w.heap.size + 2) 33 2 va 1 [.string x.atom, .slice A x.list.length c] ∧ wc.ownsRow (w.heap.size + 2) 33 2 vb 1 [.string y.atom, .slice B y.list.length d] ∧ va.ownBlock ≠ vb.ownBlock ∧ Below w.heap.size w wc ∧ w.heap.size + 2 ≤ wc.heap.size)
  case first =>
    have h0 : w.heap.size + 2 ≤ ((w.alloc (.cells #[.string x.atom, .slice A x.list.length c] 33)).alloc (.cells #[.string y.atom, .slice B y.list.length d] 33)).heap.size := by simp
    have t1 := @two_rows _ 33 _ (.string x.atom) (.slice A x.list.length c) (.string y.atom) (.slice B y.list.length d) h0
    have t2 := @two_rows _ 33 _ (.string y.atom) (.slice B y.list.length d) (.string x.atom) (.slice A x.list.length c) h0
    simp only [World.size_alloc] at t1 t2
    have T1 := Lib.hid t1
    have T2 := Lib.hid t2
    clear h0 t1 t2
    go_region
    all_goals go_wp2
    · go_meet
      case rel => exact ⟨T1.out.1, T1.out.2, by simp [Value.ownBlock], ((((((Below.refl _ _).alloc (Nat.le_refl _) _).alloc (by simp) _).alloc (by simp; omega) _).alloc (by simp; omega) _).drew), by simp⟩
    · go_meet
      case rel => exact ⟨T2.out.2, T2.out.1, by simp [Value.ownBlock], ((((((Below.refl _ _).alloc (Nat.le_refl _) _).alloc (by simp) _).alloc (by simp; omega) _).alloc (by simp; omega) _).drew), by simp⟩
  case rest =>
    obtain ⟨hra, hrb, hne, hbc, hsc⟩ := hcut
    have HRA := Lib.hid hra
    have HRB := Lib.hid hrb
    have HNE := Lib.hid hne
    clear hra hrb hne
    go_wp2
    go_loopg [9, 10] (SX.nodesL [x]) (fun gk va vb wr => ∃ (ls ms : List SX) (us vs : List Value), wr.ownsRow (w.heap.size + 2) 33 2 va ls.length us ∧ wr.ownsRow (w.heap.size + 2) 33 2 vb ls.length vs ∧ va.ownBlock ≠ vb.ownBlock ∧ Elems w (Lt w.heap.size) ls us ∧ Elems w (Lt w.heap.size) ms vs ∧ ls.length = ms.length ∧ (x = y ↔ ls = ms) ∧ SX.nodesL ls ≤ x.nodes ∧ gk = SX.nodesL ls ∧ Below w.heap.size w wr ∧ w.heap.size + 2 ≤ wr.heap.size)
    case atStart => exact ⟨[x], [y], _, _, HRA.out, HRB.out, HNE.out, HEA.out, HEB.out, rfl, by simp, by simp [SX.nodesL], rfl, hbc, hsc⟩
    case round =>
      obtain ⟨ls, ms, us, vs, howa, howb, hnb, hela, helb, hlen, hiff, hnod, rfl, hb, hbs⟩ := hrel
      rcases concat_cases ls with rfl | ⟨ls0, p, rfl⟩
      · obtain ⟨A1, c1, rfl⟩ := own_nil howa
        have hm0 : ms = [] := List.eq_nil_of_length_eq_zero hlen.symm
        have hs : x.same y = true := (SX.same_iff x y).2 (hiff.2 hm0.symm)
        have HS := Lib.hid hs
        clear howa howb hnb hela helb hlen hiff hnod hm0 hs
        go_wp2
        go_ret
        exact ⟨congrArg (fun b => Ending.returned (.bool b)) HS.out.symm, hb⟩
      · rcases concat_cases ms with rfl | ⟨ms0, q, rfl⟩
        · simp at hlen
        · have hl0 : ls0.length = ms0.length := by simpa using hlen
          have hll := sumL_length ls0
          have hnl := sumL_snoc ls0 p
          have hpn := SX.nodes_eq p
          obtain ⟨hyes, hno⟩ := pop_eq hiff hl0
          rw [List.length_append, List.length_singleton] at howa howb
          obtain ⟨us0, Ap, cp, rfl, hea0, hlp⟩ := hela.last
          obtain ⟨vs0, Aq, cq, rfl, heb0, hlq⟩ := helb.last
          obtain ⟨ga, capa, rfl⟩ := own_some howa
          obtain ⟨gb, capb, rfl⟩ := own_some howb
          obtain ⟨howa0, hca, hcapa, hcma, hBa, hga⟩ := own_pop howa hea0.length rfl
          obtain ⟨howb0, hcb, hcapb, hcmb, hBb, hgb⟩ := own_pop howb (by rw [heb0.length, hl0]) rfl
          have ca0 : wr.cell? ⟨ga, ls0.length * 2, none⟩ = some (.string p.atom) := hca 0 (by decide)
          have ca1 : wr.cell? ⟨ga, ls0.length * 2 + 1, none⟩ = some (.slice Ap p.list.length cp) := hca 1 (by decide)
          have cb0 : wr.cell? ⟨gb, ls0.length * 2, none⟩ = some (.string q.atom) := hcb 0 (by decide)
          have cb1 : wr.cell? ⟨gb, ls0.length * 2 + 1, none⟩ = some (.slice Aq q.list.length cq) := hcb 1 (by decide)
          have hn32 : (ls0.length : Int) + 1 ≤ 4294967296 := by omega
          unfold maxLen at hcma hcmb
          have HY := Lib.hid hyes
          have HNo := Lib.hid hno
          have HOA := Lib.hid howa0
          have HOB := Lib.hid howb0
          have HEA0 := Lib.hid hea0
          have HEB0 := Lib.hid heb0
          have HLP := Lib.hid hlp
          have HLQ := Lib.hid hlq
          have HLL := Lib.hid hl0
          have HNL := Lib.hid hnl
          have HPN := Lib.hid hpn
          have HNB := Lib.hid hnb
          have HND := Lib.hid hnod
          clear hyes hno howa0 howb0 hea0 heb0 hlp hlq hl0 hnl hpn hnb hnod hela helb hlen hiff howa howb hca hcb hll
          go_upto_region 4 with (fail)
          go_cut [12, 13] from 20 to 61 (fun v8 v9 wc => ∃ g8 g9 : Nat, v8 = .pointer (some ⟨g8, 0, none⟩) ∧ v9 = .pointer (some ⟨g9, 0, none⟩) ∧ wr.heap.size ≤ g8 ∧ wr.heap.size ≤ g9 ∧ Whole wc g8 33 #[.string p.atom, .slice Ap p.list.length cp] ∧ Whole wc g9 33 #[.string q.atom, .slice Aq q.list.length cq] ∧ Below wr.heap.size wr wc)
          case first =>
            have B1 := Lib.hid (@two_boxes wr 33 #[.string p.atom, .slice Ap p.list.length cp] #[.string q.atom, .slice Aq q.list.length cq])
            have B2 := Lib.hid (@two_boxes wr 33 #[.string q.atom, .slice Aq q.list.length cq] #[.string p.atom, .slice Ap p.list.length cp])
            go_region
            all_goals go_wp2
            · go_meet
              case rel => exact ⟨_, _, rfl, rfl, Nat.le_refl _, by omega, B1.out.1, B1.out.2, (((Below.refl _ _).alloc (Nat.le_refl _) _).alloc (by simp) _).drew⟩
            · go_meet
              case rel => exact ⟨_, _, rfl, rfl, by omega, Nat.le_refl _, B2.out.2, B2.out.1, (((Below.refl _ _).alloc (Nat.le_refl _) _).alloc (by simp) _).drew⟩
          case rest =>
            obtain ⟨g8, g9, rfl, rfl, hg8, hg9, hw8, hw9, hbc2⟩ := hcut
            have hb2 := hb.trans (hbc2.mono hb.size)
            obtain ⟨x0, x1⟩ := cells2' hw8
            obtain ⟨y0, y1⟩ := cells2' hw9
            have cE : ∀ (s : ByteArray) (A : Option Addr) (n c : Nat) dr os, Calls Tryz.prog 67 #[.agg #[.string s, .slice A n c]] (Go.Sort.grow (redrawn wc dr) os) fun e w'' => e = .returned (.slice A n c) ∧ ∃ p : Regrown, w'' = Go.Sort.grow (redrawn wc p.d) p.os :=
              fun s A n c dr os => Calls.regrown_of (implElements s A n c _)
            have kx0 := cell_regrown x0
            have kx1 := cell_regrown x1
            have ky0 := cell_regrown y0
            have ky1 := cell_regrown y1
            clear ca0 ca1 cb0 cb1
            go_wp2
            refine wp_region_quiet_below (by kernel_rfl) (by kernel_rfl) ?_
            repeat (quiet_step (exact cE _ _ _ _ _ _))
            refine wpQuiet_nil ?_
            intro _ hw'
            obtain ⟨⟨dq, osq⟩, hw''⟩ := hw'
            subst hw''
            have hbd : Below wc.heap.size wc (Go.Sort.grow (redrawn wc dq) osq) := below_regrown wc dq osq
            obtain ⟨wd, hwd⟩ : ∃ wd, wd = Go.Sort.grow (redrawn wc dq) osq := ⟨_, rfl⟩
            rw [← hwd] at hbd ⊢
            clear hwd cE kx0 kx1 ky0 ky1 x0 x1 y0 y1
            have hbd2 := hb2.trans (hbd.mono hb2.size)
            have hbcd := hbc2.trans (hbd.mono hbc2.size)
            obtain ⟨x0, x1⟩ := cells2' (hw8.below hbd hw8.lt)
            obtain ⟨y0, y1⟩ := cells2' (hw9.below hbd hw9.lt)
            clear hw8 hw9 hg8 hg9
            go_wp2_with fail
            refine (implRootX _ _ _ _ _ _ _ _ _).mono ?_
            rintro e we ⟨rfl, hbe⟩
            have hbe2 := hbd2.trans (hbe.mono hbd2.size)
            have hbce := hbcd.trans (hbe.mono hbcd.size)
            clear x0 x1 y0 y1
            by_cases hat : p.atom = q.atom
            · have hroot : decide (p.atom = q.atom) = true := decide_eq_true hat
              rw [hroot]
              by_cases hpl : p.list.length = q.list.length
              · have hiff2 := HY.out hat hpl
                have q2 : ((p.list.length : Int) == p.list.length) = true := by simp
                rw [← hpl]
                have HI := Lib.hid hiff2
                have HPL := Lib.hid hpl
                have hle2 := HND.out
                rw [HNL.out, HPN.out] at hle2
                have hpll := sumL_length p.list
                have hlls := sumL_length ls0
                have hn33 : ls0.length + p.list.length ≤ 4294967296 := by omega
                obtain ⟨news1, hel1, hnl1, hone1, hA1⟩ := HLP.out.cells
                have HH1 := Lib.hid (cells_in hbe2 hA1)
                have HE1 := Lib.hid hel1
                have HN1 := Lib.hid hnl1
                have HO1 := Lib.hid hone1
                have HOA2 := Lib.hid (owns_below HOA.out hbce)
                have HOB2 := Lib.hid (owns_below HOB.out hbce)
                have hbsc : w.heap.size + 2 ≤ we.heap.size := Nat.le_trans hbs hbce.size
                have sl0 : (0 : Int) ≤ ls0.length := by omega
                have sla : (ls0.length : Int) ≤ capa := by omega
                have slb : (ls0.length : Int) ≤ capb := by omega
                clear hiff2 hpl hat hle2 hpll hlls hel1 hnl1 hone1 hA1 hroot
                go_wp2_with (at_builtin; refine wpList_append_any rfl (.tmp 54) (.tmp 55) 31 rfl (w.heap.size + 2) 33 i0 (.agg #[.string ByteArray.empty, .slice none 0 0]) 2 40 Tryz.underlying31 hi hz0 hz1 hz2 rfl (by decide) (.slice (some ⟨ga, 0, none⟩) ls0.length capa) ls0.length us0 rfl HOA2.out Ap p.list.length cp news1 rfl HN1.out HH1.out HO1.out (by unfold maxLen; omega) (by omega) hbsc we.heap.size rfl ?_)
                intro va2 w2 hown2 hgrow2 hat2
                have hgrow2' : we.grownBy w2 (some ga) := ⟨hgrow2.os, hgrow2.tape, hgrow2.output, hgrow2.size, hgrow2.block⟩
                have hga2 : ga < we.heap.size := Nat.lt_of_lt_of_le hga hbce.size
                have hnab : ga ≠ gb := fun e => HNB.out (by simp [Value.ownBlock, e])
                have hob3 := HOB2.out.kept hgrow2' (.inr (by simp [Value.ownBlock]; omega))
                have hb3 : Below w.heap.size w w2 := hbe2.grown hgrow2' hbe2.size (fun k hk => by injection hk with hk; omega)
                have hbs3 : w.heap.size + 2 ≤ w2.heap.size := Nat.le_trans hbsc hgrow2'.size
                obtain ⟨news2, hel2, hnl2, hone2, hA2⟩ := HLQ.out.cells
                have HH2 := Lib.hid (cells_in hb3 hA2)
                rw [← HPL.out] at hnl2 HH2
                have HE2 := Lib.hid hel2
                have HN2 := Lib.hid hnl2
                have HO2 := Lib.hid hone2
                have HOB3 := Lib.hid hob3
                have HOA3 := Lib.hid hown2
                have HAT2 := Lib.hid hat2
                clear hob3 hown2 hel2 hnl2 hone2 hA2 hgrow2 hat2
                go_wp2_with (at_builtin; refine wpList_append_any rfl (.tmp 59) (.tmp 60) 31 rfl (w.heap.size + 2) 33 i0 (.agg #[.string ByteArray.empty, .slice none 0 0]) 2 40 Tryz.underlying31 hi hz0 hz1 hz2 rfl (by decide) (.slice (some ⟨gb, 0, none⟩) ls0.length capb) ls0.length vs0 rfl HOB3.out Aq p.list.length cq news2 rfl HN2.out HH2.out HO2.out (by unfold maxLen; omega) (by omega) hbs3 w2.heap.size rfl ?_)
                intro vb2 w3 hown3 hgrow3 hat3
                have hgrow3' : w2.grownBy w3 (some gb) := ⟨hgrow3.os, hgrow3.tape, hgrow3.output, hgrow3.size, hgrow3.block⟩
                have hva : va2.ownBlock = some ga ∨ va2.ownBlock = some we.heap.size := HAT2.out
                have hvb : vb2.ownBlock = some gb ∨ vb2.ownBlock = some w2.heap.size := hat3
                have hval := HOA3.out.lt
                have hgb2 : gb < we.heap.size := Nat.lt_of_lt_of_le hgb hbce.size
                have hszw := hgrow2'.size
                have hownA := HOA3.out.kept hgrow3' (.inr (by
                  rcases hva with h | h <;> rw [h] <;> simp <;> omega))
                have hnev : va2.ownBlock ≠ vb2.ownBlock := by
                  intro e
                  rcases hva with h | h <;> rcases hvb with h' | h' <;> rw [h, h'] at e <;> simp at e
                  · omega
                  · omega
                  · omega
                  · have := (hval _ h).2; omega
                have hb4 : Below w.heap.size w w3 := hb3.grown hgrow3' hb3.size (fun k hk => by injection hk with hk; omega)
                have hbs4 : w.heap.size + 2 ≤ w3.heap.size := Nat.le_trans hbs3 hgrow3'.size
                have hla : (ls0 ++ p.list).length = ls0.length + p.list.length := List.length_append
                rw [← hla] at hownA
                rw [← hla] at hown3
                have hlab : (ls0 ++ p.list).length = (ms0 ++ q.list).length := by rw [List.length_append, List.length_append, HPL.out, HLL.out]
                have heA := HEA0.out.append HE1.out
                have heB := HEB0.out.append HE2.out
                have hnd2 : SX.nodesL (ls0 ++ p.list) ≤ x.nodes := by rw [sumL_append]; have := HND.out; have := HNL.out; have := HPN.out; omega
                have hnd3 : SX.nodesL (ls0 ++ p.list) < SX.nodesL (ls0 ++ [p]) := by rw [sumL_append]; have := HNL.out; have := HPN.out; omega
                have FA := Lib.hid hownA
                have FB := Lib.hid hown3
                have FN := Lib.hid hnev
                have F1 := Lib.hid heA
                have F2 := Lib.hid heB
                have F3 := Lib.hid hlab
                have F4 := Lib.hid hnd2
                have F5 := Lib.hid hnd3
                clear hownA hown3 hnev heA heB hlab hnd2 hnd3 hla hval hva hvb hat3 hgrow3
                go_wp2
                go_roundg (SX.nodesL (ls0 ++ p.list))
                case measure => exact F5.out
                case rel => exact ⟨_, _, _, _, FA.out, FB.out, FN.out, F1.out, F2.out, F3.out, HI.out, F4.out, rfl, hb4, hbs4⟩
              · have hns := HNo.out (.inr hpl)
                have hsf : x.same y = false := by rw [← Bool.not_eq_true, SX.same_iff]; exact hns
                have q2 : ((p.list.length : Int) == q.list.length) = false := by rw [beq_eq_false_iff_ne]; omega
                have HS := Lib.hid hsf
                clear hns hsf hat hcma hcmb hcapa hcapb hn32 hroot
                go_wp2
                go_ret
                exact ⟨congrArg (fun b => Ending.returned (.bool b)) HS.out.symm, hbe2⟩
            · have hroot : decide (p.atom = q.atom) = false := decide_eq_false hat
              have hns := HNo.out (.inl hat)
              have hsf : x.same y = false := by rw [← Bool.not_eq_true, SX.same_iff]; exact hns
              have HS := Lib.hid hsf
              rw [hroot]
              clear hns hsf hat hcma hcmb hcapa hcapb hn32 hroot
              go_wp2
              go_ret
              exact ⟨congrArg (fun b => Ending.returned (.bool b)) HS.out.symm, hbe2⟩

set_option maxRecDepth 100000 in
set_option maxHeartbeats 2000000 in
theorem implEqual (x y : SX) (A B : Option Addr) (c d : Nat) (w : World) (hx : x.nodes ≤ 4294967296) (hA : ListAt w (Lt w.heap.size) A x.list) (hB : ListAt w (Lt w.heap.size) B y.list) :
    Calls Tryz.prog 31 #[.agg #[.string x.atom, .slice A x.list.length c], .agg #[.string y.atom, .slice B y.list.length d]] w fun e w' => e = .returned (.bool (x.same y)) ∧ Below w.heap.size w w' := by
  have hb0 : Below w.heap.size w ((w.alloc (.cells #[.string x.atom, .slice A x.list.length c] 33)).alloc (.cells #[.string y.atom, .slice B y.list.length d] 33)) := ((Below.refl _ _).alloc (Nat.le_refl _) _).alloc (by simp) _
  have HA := Lib.hid (hA.grow hb0)
  have HB := Lib.hid (hB.grow hb0)
  clear hA hB
  go_enter Tryz.func31, Tryz.ntmps31
  go_wp2_with fail
  refine (implTreesX x y _ _ _ _ _ hx HA.out HB.out).mono ?_
  rintro e w1 ⟨rfl, hb1⟩
  have hb2 := hb0.trans (hb1.mono hb0.size)
  go_wp2
  go_ret
  exact ⟨rfl, hb2⟩
end Go.Proofs.YtbcfeoobhemdcaaGreat

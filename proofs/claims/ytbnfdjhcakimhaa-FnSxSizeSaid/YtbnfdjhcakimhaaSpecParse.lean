/- The reference model's ParseSExpr. -/
import Derived.Test.YtbnfdjhcakimhaaSpecP
import Derived.Test.YtbnfdjhcakimhaaReadC
import Derived.Test.YtbnfdjhcakimhaaMem
import Derived.Test.YtbnfdjhcakimhaaSpecFormat
namespace Go.Proofs.Ytbnfdjhcakimhaa
open Go.RowKit Go.Lib

mutual
theorem readX_wt : ∀ (n : Nat) (l : List UInt8) (d z : Nat) {x : SX} {r : List UInt8} {z' : Nat}, readX n l d z = some (x, r, z') → 1 + x.wt + 2 * r.length ≤ 2 * l.length
  | 0, _, _, _, _, _, _, h => by rw [readX] at h; cases h
  | n + 1, l, d, z, x, r, z', h => by
    rw [readX] at h
    have hl := skipW_le l
    split at h
    · cases h
    · split at h
      · rename_i h1 h2
        injection h with h; injection h with h h'; injection h' with h' h''
        subst h h'
        have e := congrArg List.length (List.takeWhile_append_dropWhile (p := okByte) (l := skipW l))
        rw [List.length_append] at e
        have := List.length_pos_iff.2 h2
        have hs : (⟨((skipW l).takeWhile okByte).toArray⟩ : ByteArray).size = ((skipW l).takeWhile okByte).length := by simp [ByteArray.size]
        rw [SX.wt, SX.wtL, hs]
        omega
      · split at h
        · cases h
        · rename_i h1 _ _
          obtain ⟨es, rfl, h2⟩ := readL_wt n _ _ _ _ h
          have h3 : skipW l ≠ [] := fun e => h1 (.inl e)
          have := List.length_pos_iff.2 h3
          rw [List.length_tail] at h2
          rw [List.nil_append, SX.wt]
          have : ByteArray.empty.size = 0 := rfl
          omega
theorem readL_wt : ∀ (n : Nat) (l : List UInt8) (d z : Nat) (acc : List SX) {x : SX} {r : List UInt8} {z' : Nat}, readL n l d z acc = some (x, r, z') → ∃ es, x = .mk ByteArray.empty (acc ++ es) ∧ SX.wtL es + 2 * r.length + 2 ≤ 2 * l.length
  | 0, _, _, _, _, _, _, _, h => by rw [readL] at h; cases h
  | n + 1, l, d, z, acc, x, r, z', h => by
    rw [readL] at h
    have hl := skipW_le l
    split at h
    · rename_i h1
      injection h with h; injection h with h h'; injection h' with h' h''
      subst h h'
      have h3 : skipW l ≠ [] := fun e => by rw [e] at h1; cases h1
      have := List.length_pos_iff.2 h3
      refine ⟨[], by rw [List.append_nil], ?_⟩
      rw [SX.wtL, List.length_tail]
      omega
    · split at h
      · cases h
      · rename_i y rest' z1 h1
        have a1 := readX_wt n _ _ _ h1
        obtain ⟨es, rfl, h2⟩ := readL_wt n _ _ _ _ h
        refine ⟨y :: es, by simp, ?_⟩
        rw [SX.wtL]
        omega
end
mutual
theorem SX.ok_wt : ∀ (x : SX), x.wt ≤ 9223372036854775807 → x.ok
  | .mk a l, h => by
    rw [SX.wt] at h
    have := SX.wtL_length l
    rw [SX.ok]
    exact ⟨by omega, by omega, SX.okL_wt l (by omega)⟩
theorem SX.okL_wt : ∀ (l : List SX), SX.wtL l ≤ 9223372036854775807 → SX.okL l
  | [], _ => by rw [SX.okL]; trivial
  | x :: r, h => by
    rw [SX.wtL] at h
    rw [SX.okL]
    exact ⟨SX.ok_wt x (by omega), SX.okL_wt r (by omega)⟩
end

/-- What a reading of a whole text gives: the expression and true; or the empty one and false. -/
def Parsed (o : Option SX) (w : World) (e : Ending) (w' : World) : Prop :=
  ∃ (x : SX) (A : Option Addr) (c : Nat), x = o.getD (.mk ByteArray.empty []) ∧ e = .returned (.tuple #[.agg #[.string x.atom, .slice A x.list.length c], .bool o.isSome]) ∧ ListAt w' (New w.heap.size w'.heap.size) A x.list ∧ Below w.heap.size w w'

mutual
theorem SX.nodes_wt : ∀ (x : SX), x.nodes ≤ 1 + x.wt
  | .mk a l => by
    have := SX.nodesL_wt l
    rw [SX.nodes, SX.wt]; omega
theorem SX.nodesL_wt : ∀ (l : List SX), SX.nodesL l ≤ SX.wtL l
  | [] => by simp [SX.nodesL, SX.wtL]
  | x :: r => by
    have := SX.nodes_wt x
    have := SX.nodesL_wt r
    rw [SX.nodesL, SX.wtL]; omega
end
theorem Parsed.none {o : Option SX} {w w' : World} (ho : o = Option.none) (hb : Below w.heap.size w w') : Parsed o w (.returned (.tuple #[.agg #[.string ⟨#[]⟩, .slice Option.none 0 0], .bool false])) w' := by
  subst ho
  exact ⟨.mk ByteArray.empty [], Option.none, 0, rfl, rfl, .inl rfl, hb⟩
theorem drop_end {s : ByteArray} {k : Nat} (hk : k ≤ s.size) (h : s.data.toList.drop k = []) : k = s.size := by
  have := congrArg List.length h
  simp at this; omega
theorem drop_more {s : ByteArray} {k : Nat} (h : s.data.toList.drop k ≠ []) : k ≠ s.size := by
  rintro rfl
  exact h (List.drop_of_length_le (by simp))

set_option maxRecDepth 100000 in
set_option maxHeartbeats 2000000 in
theorem specParse (s : ByteArray) (w : World) (hs : s.size ≤ 1073741824) : Calls Try.prog 23 #[.string s] w (Parsed (specP s.data.toList) w) := by
  have hsz : s.data.toList.length = s.size := by simp
  have hdz : s.data.toList.drop 0 = s.data.toList := rfl
  have hw0 : Cells ((w.alloc (.cells #[.string ByteArray.empty, .slice none 0 0] 26)).alloc (.cells #[.string s, .int .i64 (0 : Nat), .int .i64 (0 : Nat), .int .i64 (0 : Nat), .bool false] 60)) (w.heap.size + 1) s 0 (0 : Nat) (0 : Nat) false := by
    have h := Whole.new (w.alloc (.cells #[.string ByteArray.empty, .slice none 0 0] 26)) 60 #[.string s, .int .i64 (0 : Nat), .int .i64 (0 : Nat), .int .i64 (0 : Nat), .bool false]
    rw [World.size_alloc] at h
    exact h
  have HW := Lib.hid hw0
  have HDZ := Lib.hid hdz
  have HSZ := Lib.hid hsz
  clear hw0 hdz hsz
  go_enter Try.func23, Try.ntmps23
  go_wp2_with fail
  refine (readC (2 * s.data.toList.length + 1) (2 * s.data.toList.length + 1) (w.heap.size + 1) s 0 0 0 _ (Nat.le_refl _) (by omega) (Nat.zero_le _) (by omega) (by omega) (by rw [HDZ.out]; exact Nat.le_refl _) HW.out).mono ?_
  rintro e w1 ⟨y, A, c, rfl, hl, hbut, haft⟩
  have hbw : Below w.heap.size w w1 := (((Below.refl _ _).alloc (Nat.le_refl _) _).alloc (by simp) _).trans (hbut.to_below (Nat.le_succ _) (by simp; omega))
  have hres : Whole w1 w.heap.size 26 #[.string ByteArray.empty, .slice none 0 0] := (hbut.block w.heap.size (by simp; omega) (by omega)).trans ((Whole.new w _ _).of_alloc _)
  have hl1 : ListAt w1 (New (w.heap.size + 2) w1.heap.size) A y.list := hl.frame (fun b hb => ⟨by have := hb.1; simp at this; omega, hb.2⟩) (fun _ _ _ => rfl)
  have hz1 := hbut.size
  have hz2 : w.heap.size + 1 < w1.heap.size := by simp at hz1; omega
  cases hR : readX (2 * s.data.toList.length + 1) s.data.toList 0 0 with
  | none =>
    have hno : specP s.data.toList = none := by rw [specP, hR]
    rw [List.drop_zero, hR] at haft
    obtain ⟨k, d, z, hk, hC⟩ := haft
    have hC2 := Whole.of_alloc hC (.cells #[.string y.atom, .slice A y.list.length c] 26)
    have HR := Lib.hid hres
    have HB := Lib.hid hbw
    have HC := Lib.hid hC2
    have HNO := Lib.hid hno
    clear hl hl1 hR hres hbw hC hC2 hno hz1 hbut
    go_wp2_with fail
    refine (skipX (w.heap.size + 1) s k d z true _ (by omega) hk HC.out).mono ?_
    rintro e w3 ⟨rfl, ⟨k', hk1, hk2, hk3, hC3⟩, hb3⟩
    have e4 : w3.cell? ⟨w.heap.size + 1, 4, none⟩ = some (.bool true) := by rw [Whole.cell hC3]; rfl
    have hz3 := hb3.size
    have hres3 := (HR.out.of_alloc (.cells #[.string y.atom, .slice A y.list.length c] 26)).but hb3 (by omega)
    have hb03 : Below w.heap.size w w3 := (HB.out.alloc HB.out.size _).trans (hb3.to_below (Nat.le_succ _) (by simp; omega))
    have r0 : w3.cell? ⟨w.heap.size, 0, none⟩ = some (.string ByteArray.empty) := by rw [hres3.cell]; rfl
    have r1 : w3.cell? ⟨w.heap.size, 1, none⟩ = some (.slice none 0 0) := by rw [hres3.cell]; rfl
    have rf0 : w3.frozen? ⟨w.heap.size, 0, none⟩ = false := hres3.frozen 0
    have rf1 : w3.frozen? ⟨w.heap.size, 1, none⟩ = false := hres3.frozen 1
    have H3 := Lib.hid hk3
    have HR3 := Lib.hid hres3
    have HB3 := Lib.hid hb03
    clear hk3 hC3 hb3 hres3 hb03
    go_wp2
    obtain ⟨e0, e1, e2, -, -⟩ := res_set HR3.out HB3.out (.string ⟨#[]⟩) (.slice none 0 0) _ rfl
    exact bodyPost_ret (v := .tuple #[.agg #[.string ⟨#[]⟩, .slice none 0 0], .bool false]) (by simp [results, Try.results23, go_sem, e0, e1]) rfl (Parsed.none HNO.out e2)
  | some q =>
    obtain ⟨x, r, z⟩ := q
    rw [List.drop_zero, hR] at haft
    obtain ⟨rfl, hz9, k, hk, hkr, hC⟩ := haft
    have hwt := readX_wt _ _ _ _ hR
    have hspec : specP s.data.toList = if skipW r = [] ∧ y.valid = true then some y else none := by rw [specP, hR]
    have hC2 := Whole.of_alloc hC (.cells #[.string y.atom, .slice A y.list.length c] 26)
    have hY2 := Whole.new w1 26 #[.string y.atom, .slice A y.list.length c]
    have hwt2 : y.wt ≤ 2147483648 := by have := HSZ.out; omega
    have hyok := SX.ok_wt y (by omega)
    have HR := Lib.hid hres
    have HB := Lib.hid hbw
    have HC := Lib.hid hC2
    have HY := Lib.hid hY2
    have HL := Lib.hid hl1
    have HS := Lib.hid hspec
    have HKR := Lib.hid hkr
    have HOK := Lib.hid hyok
    clear hl hl1 hR hres hbw hC hC2 hY2 hspec hkr hz1 hbut hwt hyok
    go_wp2_with fail
    refine (skipX (w.heap.size + 1) s k (0 : Nat) z false _ (by omega) hk HC.out).mono ?_
    rintro e w3 ⟨rfl, ⟨k', hk1, hk2, hk3, hC3⟩, hb3⟩
    rw [HKR.out] at hk3
    have e4 : w3.cell? ⟨w.heap.size + 1, 4, none⟩ = some (.bool false) := by rw [Whole.cell hC3]; rfl
    have e1 : w3.cell? ⟨w.heap.size + 1, 1, none⟩ = some (.int .i64 k') := by rw [Whole.cell hC3]; rfl
    have hz3 := hb3.size
    simp only [World.size_alloc] at hz3
    have hres3 := (HR.out.of_alloc (.cells #[.string y.atom, .slice A y.list.length c] 26)).but hb3 (by omega)
    have hY3 := HY.out.but hb3 (by omega)
    have hb03 : Below w.heap.size w w3 := (HB.out.alloc HB.out.size _).trans (hb3.to_below (Nat.le_succ _) (by simp; omega))
    have hl3 : ListAt w3 (New (w.heap.size + 2) w3.heap.size) A y.list := HL.out.frame (fun b hb => ⟨hb.1, by have := hb.2; omega⟩) fun b o hb => World.cell?_of_block (a := ⟨b, o, none⟩) ((hb3.block b (by have := hb.2; simp; omega) (by have := hb.1; omega)).trans (Below.heap_alloc _ _ _ hb.2))
    have r0 : w3.cell? ⟨w.heap.size, 0, none⟩ = some (.string ByteArray.empty) := by rw [hres3.cell]; rfl
    have r1 : w3.cell? ⟨w.heap.size, 1, none⟩ = some (.slice none 0 0) := by rw [hres3.cell]; rfl
    have rf0 : w3.frozen? ⟨w.heap.size, 0, none⟩ = false := hres3.frozen 0
    have rf1 : w3.frozen? ⟨w.heap.size, 1, none⟩ = false := hres3.frozen 1
    have y0 : w3.cell? ⟨w1.heap.size, 0, none⟩ = some (.string y.atom) := by rw [hY3.cell]; rfl
    have y1 : w3.cell? ⟨w1.heap.size, 1, none⟩ = some (.slice A y.list.length c) := by rw [hY3.cell]; rfl
    have H3 := Lib.hid hk3
    have HR3 := Lib.hid hres3
    have HY3 := Lib.hid hY3
    have HB3 := Lib.hid hb03
    have HL3 := Lib.hid hl3
    clear hk3 hC3 hb3 hres3 hb03 hl3 hY3
    by_cases hend : skipW r = []
    · have hks : k' = s.size := drop_end hk2 (by rw [H3.out]; exact hend)
      subst hks
      have hn4 : y.nodes ≤ 4294967296 := by have := SX.nodes_wt y; omega
      go_wp2_with fail
      refine (validX y A c _ hn4 HOK.out (HL3.out.frame (fun b hb => hb.2) fun _ _ _ => rfl)).mono ?_
      rintro e w4 ⟨rfl, hb4⟩
      have hres4 := HR3.out.below hb4 HR3.out.lt
      have hY4 := HY3.out.below hb4 HY3.out.lt
      have hb04 := HB3.out.trans (hb4.mono HB3.out.size)
      have hl4 : ListAt w4 (New (w.heap.size + 2) w4.heap.size) A y.list := HL3.out.frame (fun b hb => ⟨hb.1, by have := hb.2; have := hb4.size; omega⟩) fun b o hb => hb4.cell (p := ⟨b, o, none⟩) hb.2
      clear r0 r1 rf0 rf1 y0 y1 e4 e1
      have hz4 := hres4.lt
      have r0 : w4.cell? ⟨w.heap.size, 0, none⟩ = some (.string ByteArray.empty) := by rw [hres4.cell]; rfl
      have r1 : w4.cell? ⟨w.heap.size, 1, none⟩ = some (.slice none 0 0) := by rw [hres4.cell]; rfl
      have rf0 : w4.frozen? ⟨w.heap.size, 0, none⟩ = false := hres4.frozen 0
      have rf1 : w4.frozen? ⟨w.heap.size, 1, none⟩ = false := hres4.frozen 1
      have y0 : w4.cell? ⟨w1.heap.size, 0, none⟩ = some (.string y.atom) := by rw [hY4.cell]; rfl
      have y1 : w4.cell? ⟨w1.heap.size, 1, none⟩ = some (.slice A y.list.length c) := by rw [hY4.cell]; rfl
      have HR4 := Lib.hid hres4
      have HB4 := Lib.hid hb04
      have HL4 := Lib.hid hl4
      clear hres4 hb04 hl4 hY4 hb4
      cases hv : y.valid with
      | false =>
        have hno : specP s.data.toList = none := by rw [HS.out, if_neg (fun h => by rw [hv] at h; exact absurd h.2 (by decide))]
        have HNO := Lib.hid hno
        clear hno hend hv
        go_wp2
        obtain ⟨e0, e1, e2, -, -⟩ := res_set HR4.out HB4.out (.string ⟨#[]⟩) (.slice none 0 0) _ rfl
        exact bodyPost_ret (v := .tuple #[.agg #[.string ⟨#[]⟩, .slice none 0 0], .bool false]) (by simp [results, Try.results23, go_sem, e0, e1]) rfl (Parsed.none HNO.out e2)
      | true =>
        have hyes : specP s.data.toList = some y := by rw [HS.out, if_pos ⟨hend, hv⟩]
        have HYES := Lib.hid hyes
        clear hyes hend hv
        go_wp2
        obtain ⟨e0, e1, e2, e3, e5⟩ := res_set HR4.out HB4.out (.string y.atom) (.slice A y.list.length c) _ rfl
        refine bodyPost_ret (v := .tuple #[.agg #[.string y.atom, .slice A y.list.length c], .bool true]) (by simp [results, Try.results23, go_sem, e0, e1]) rfl ?_
        exact ⟨y, A, c, by rw [HYES.out]; rfl, by rw [HYES.out]; rfl, HL4.out.frame (fun b hb => ⟨by have := hb.1; omega, by have := hb.2; omega⟩) fun b o hb => World.cell?_of_block (a := ⟨b, o, none⟩) (e3 b (by have := hb.1; omega)), e2⟩
    · have hno : specP s.data.toList = none := by rw [HS.out, if_neg (fun h => hend h.1)]
      have hks : ((k' : Int) != (s.size : Int)) = true := by
        have := drop_more (s := s) (k := k') (by rw [H3.out]; exact hend)
        rw [bne_iff_ne]; omega
      have HNO := Lib.hid hno
      clear hno hend
      go_wp2
      obtain ⟨e0, e1, e2, -, -⟩ := res_set HR3.out HB3.out (.string ⟨#[]⟩) (.slice none 0 0) _ rfl
      exact bodyPost_ret (v := .tuple #[.agg #[.string ⟨#[]⟩, .slice none 0 0], .bool false]) (by simp [results, Try.results23, go_sem, e0, e1]) rfl (Parsed.none HNO.out e2)
end Go.Proofs.Ytbnfdjhcakimhaa

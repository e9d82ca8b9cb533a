/- Texts that the claims share, joined. -/
import Derived.Test.YtbcfeoobhemdcaaQ1
import Derived.BigQuiet
import Derived.Deep.QuietTactic
import Derived.Laws.OwnMore
import Derived.Tactics
import Derived.Maps.AppendAt
import Derived.Deep.LoopGhost
import Derived.Deep.CutRange
import Derived.RegionTactic
import Derived.Lib.QuietBelow
import Derived.Test.YtbcfeoobhemdcaaProg
import Derived.Maps.OwnOps
import Derived.Maps.Views
import Derived.Outline
import Derived.Lib.Hide
import Derived.Deep.RegionHeld3
import Derived.Laws.RangeAny
import Derived.RangeFuncNested
import Derived.RangeFuncBound
import Derived.RangeFuncCalls
import Derived.WalkKit
import Derived.Deep.Slices
import Derived.Lib.SmallJoins
import Derived.ProofKit
import Derived.Shelf.Strings.Builder1
import Derived.Shelf.Strings.Builder2
import Derived.Shelf.Strings.OnBuilder
import Derived.Lib.Join
import Derived.Laws.MakeOwn
namespace Go.Proofs.Ytbcfeoobhemdcaa
open Go.RowKit Go.Lib

theorem SX.atom_mk (a : ByteArray) (l : List SX) : (SX.mk a l).atom = a := rfl
theorem SX.list_mk (a : ByteArray) (l : List SX) : (SX.mk a l).list = l := rfl
def HeldS (N : Nat) : Prop := ∀ (l : List SX) (A : Option Addr) (c k : Nat) (w : World), SX.nodesL l ≤ N → ListAt w (Lt w.heap.size) A (mrkL k l) → 0 < k → k + SX.nodesL l ≤ 4294967296 →
  Calls Try.prog 92 #[.slice A l.length c, .int .i64 k] w fun e w' => e = .returned (.int .i64 (k + SX.nodesL l : Nat)) ∧ Below w.heap.size w w'

set_option maxRecDepth 100000 in
set_option maxHeartbeats 2000000 in
theorem heldS_step (N : Nat) (ih : HeldS N) : HeldS (N + 1) := by
  intro l A c k w hn hl hk0 hkn
  have hcount := nodesL_count l
  have HL := Lib.hid hl
  have HN := Lib.hid hn
  clear hl hn
  go_enter Try.func92, Try.ntmps92
  go_wp2
  go_loopw [1, 5] (fun kv iv wr => ∃ i kk : Nat, i ≤ l.length ∧ iv = .int .i64 i ∧ kk = k + SX.nodesL (l.take i) ∧ kv = .int .i64 kk ∧ Below w.heap.size w wr) (fun _ iv _ => l.length - (Go.RowKit.intOf iv).toNat)
  case atStart => exact ⟨0, k, Nat.zero_le _, rfl, by simp [SX.nodesL], rfl, Below.refl _ _⟩
  case round =>
    obtain ⟨i, kk, hi, rfl, hkke, rfl, hb⟩ := hrel
    by_cases hlt : i < l.length
    · have hst := nodesL_step l i hlt
      have hle := nodesL_part l (i + 1)
      have hne := SX.nodes_eq l[i]
      have hml := mrkL_length l k
      have hat := (HL.out.grow hb).at_ (j := i) (by rw [hml]; exact hlt)
      have hge : (mrkL k l)[i]'(by rw [hml]; exact hlt) = l[i].mrk kk := by
        have h := mrkL_at l k i hlt
        rw [List.getElem?_eq_getElem (by rw [hml]; exact hlt), ← hkke] at h
        exact Option.some.inj h
      rw [hge, mrk_eq] at hat
      simp only [SX.atom_mk, SX.list_mk, mrkL_length] at hat
      obtain ⟨b, o, A', c', rfl, hblt, c0, c1, hlx⟩ := hat
      have hk0' : 0 < kk := by omega
      have hkb : kk ≤ 4294967296 := by omega
      have hNx : SX.nodesL l[i].list ≤ N := by have := HN.out; omega
      have hk1 : kk + 1 + SX.nodesL l[i].list ≤ 4294967296 := by omega
      have hkk : ((kk : Nat) : Int) + 1 = ((kk + 1 : Nat) : Int) := by omega
      have hi0 : (0 : Int) ≤ i := by omega
      have cM : ∀ d os, Calls Try.prog 131 #[.int .i64 (kk : Nat)] (Go.Sort.grow (redrawn wr d) os) fun e w'' => e = .returned (.string (mark kk)) ∧ ∃ p : Regrown, w'' = Go.Sort.grow (redrawn wr p.d) p.os := fun d os => Calls.regrown_of (markText kk _ (by omega) (by omega))
      have kc := cell_regrown c0
      have HLX := Lib.hid hlx
      have HST := Lib.hid hst
      have HNE := Lib.hid hne
      have HKK := Lib.hid hkk
      have HKE := Lib.hid hkke
      have HC1 := Lib.hid c1
      clear hlx hst hne hkk hkke hml hge hle c1
      go_wp2
      refine wp_region_quiet_below (by kernel_rfl) (by kernel_rfl) ?_
      repeat (quiet_step (exact cM _ _))
      refine wpQuiet_nil ?_
      intro _ hw'
      obtain ⟨⟨dq, osq⟩, hw''⟩ := hw'
      subst hw''
      have hb2 := below_regrown wr dq osq
      have hb3 := hb.trans (hb2.mono hb.size)
      have c1' := (hb2.cell (p := ⟨b, o + i * 2 + 1, none⟩) hblt).trans HC1.out
      have HLX2 := Lib.hid (HLX.out.grow hb2)
      clear cM kc c0
      have HB3 := Lib.hid hb3
      clear hb3 hb2
      generalize Go.Sort.grow (redrawn wr dq) osq = w2 at *
      go_wp2_with fail
      rw [HKK.out]
      refine (ih l[i].list A' c' (kk + 1) w2 hNx HLX2.out (by omega) hk1).mono ?_
      rintro e w3 ⟨rfl, hb4⟩
      have hb5 := HB3.out.trans (hb4.mono HB3.out.size)
      have hnn : ¬ (((kk + 1 + SX.nodesL l[i].list : Nat) : Int) < 0) := by omega
      clear c1' hb4
      go_wp2
      go_roundw
      case rel => exact ⟨i + 1, kk + 1 + SX.nodesL l[i].list, by omega, by go_num, by rw [HST.out, HNE.out, HKE.out]; omega, rfl, hb5⟩
      case measure => simp [Go.RowKit.intOf]; omega
    · have hil : i = l.length := by omega
      subst hil
      rw [List.take_length] at hkke
      subst hkke
      go_wp2
      go_ret
      exact ⟨rfl, hb⟩
theorem heldSAll : ∀ N, HeldS N
  | 0 => by
    intro l A c k w hn hl hk0 hkn
    have hc := nodesL_count l
    have hl : l = [] := List.eq_nil_of_length_eq_zero (by omega)
    subst hl
    go_enter Try.func92, Try.ntmps92
    go_wp2
    refine wp_loop_rounds 1 ?_
    rw [rounds_succ]
    go_wp2
    go_ret
    exact ⟨rfl, Below.refl _ _⟩
  | N + 1 => heldS_step N (heldSAll N)

set_option maxRecDepth 100000 in
set_option maxHeartbeats 1000000 in
/-- A whole expression marked: its own word stays, all else bears marks. -/
theorem markWhole (x : SX) (A : Option Addr) (c k B : Nat) (bs : List Nat) (w : World) (hO : OwX w B x (.string x.atom) (.slice A x.list.length c) bs) (hnd : bs.Nodup) (hlt : ∀ b ∈ bs, b < w.heap.size) (hk0 : 0 < k) (hk : k + SX.nodesL x.list ≤ 4294967296) :
    Calls Try.prog 43 #[.agg #[.string x.atom, .slice A x.list.length c], .int .i64 k] w fun e w' => e = .returned (.int .i64 (k + SX.nodesL x.list : Nat)) ∧ ListAt w' (fun b => b ∈ bs) A (mrkL k x.list) ∧ ButL bs w w' := by
  have hb0 : Below w.heap.size w (w.alloc (.cells #[.string x.atom, .slice A x.list.length c] 26)) := (Below.refl _ _).alloc (Nat.le_refl _) _
  have hO1 := OwX_frame _ (fun b hb => hb0.block b (hlt b hb)) (OwX_bare hO)
  have hlt1 : ∀ b ∈ bs, b < (w.alloc (.cells #[.string x.atom, .slice A x.list.length c] 26)).heap.size := fun b hb => by have := hlt b hb; simp; omega
  have HO := Lib.hid hO1
  have HL := Lib.hid hlt1
  have HN := Lib.hid hnd
  have HB := Lib.hid hb0
  clear hO hO1 hlt hlt1 hnd hb0
  go_enter Try.func43, Try.ntmps43
  go_wp2_with fail
  refine (markSAll (SX.nodesL x.list) x.list A c k B bs _ (Nat.le_refl _) HO.out HN.out HL.out hk0 hk).mono ?_
  rintro e w1 ⟨rfl, hO2, hb2⟩
  have h1 := OwX_list (P := fun b => b ∈ bs) _ (fun b hb => hb) hO2
  have h2 := (ButL.of_below (bs := bs) HB.out).trans hb2
  have H1 := Lib.hid h1
  have H2 := Lib.hid h2
  clear hO2 hb2 h1 h2
  go_wp2
  go_ret
  exact ⟨rfl, H1.out, H2.out⟩
set_option maxRecDepth 100000 in
set_option maxHeartbeats 1000000 in
theorem heldWhole (x : SX) (A : Option Addr) (c k : Nat) (w : World) (hl : ListAt w (Lt w.heap.size) A (mrkL k x.list)) (hk0 : 0 < k) (hk : k + SX.nodesL x.list ≤ 4294967296) :
    Calls Try.prog 44 #[.agg #[.string x.atom, .slice A x.list.length c], .int .i64 k] w fun e w' => e = .returned (.int .i64 (k + SX.nodesL x.list : Nat)) ∧ Below w.heap.size w w' := by
  have hb0 : Below w.heap.size w (w.alloc (.cells #[.string x.atom, .slice A x.list.length c] 26)) := (Below.refl _ _).alloc (Nat.le_refl _) _
  have HL := Lib.hid (hl.grow hb0)
  have HB := Lib.hid hb0
  clear hl hb0
  go_enter Try.func44, Try.ntmps44
  go_wp2_with fail
  refine (heldSAll (SX.nodesL x.list) x.list A c k _ (Nat.le_refl _) HL.out hk0 hk).mono ?_
  rintro e w1 ⟨rfl, hb1⟩
  have hb2 := HB.out.trans (hb1.mono HB.out.size)
  have hnn : ¬ (((k + SX.nodesL x.list : Nat) : Int) < 0) := by omega
  clear hb1
  go_wp2
  go_ret
  exact ⟨rfl, hb2⟩
end Go.Proofs.Ytbcfeoobhemdcaa
namespace Go.Proofs.Ytbcfeoobhemdcaa
open Go.RowKit

theorem run_append_nil {P : Program} {w : World} (base : Nat) (t ty e : TypeId) (i : TypeInfo) (size : Nat) (ht : P.underlying t = some (.slice e)) (hi : P.info? e = some i)
    (v : Value) (n c : Nat) (xs : List Value) (hown : w.ownsRow base e size v n xs) :
    (Builtin.append_ #[t, t] ty #[v, .slice none 0 c]).run P w = .ok v w := by
  rcases hown.2 with ⟨rfl, rfl⟩ | ⟨g, cap, cur, rfl, _, _, hnc, _⟩
  · simp [Builtin.append_, run_underlying ht, sizeOf, typeInfo, hi, Builtin.lenOf, Builtin.firstCells]
  · simp [Builtin.append_, run_underlying ht, sizeOf, typeInfo, hi, Builtin.lenOf, Builtin.firstCells, hnc, storeCells]

theorem wp_append_any {P : Program} {w : World} {o : Oper} {a : Act} {K : Act → World → Prop} {Q : Exit → Act → World → Prop} (s x : Operand) (t : TypeId)
    (ho : o.op = .call { callee := .builtin .append, args := #[s, x], argTypes := #[t, t] })
    (base : Nat) (e : TypeId) (i : TypeInfo) (z : Value) (size bytes : Nat) (ht : P.underlying t = some (.slice e)) (hi : P.info? e = some i) (hz : i.zero = some z)
    (hsize : i.size = size) (hby : i.bytes = bytes) (hzs : z.cells.size = size) (hsz : 0 < size)
    (v : Value) (n : Nat) (xs : List Value) (hs : a.eval s = v) (hown : w.ownsRow base e size v n xs)
    (A : Option Addr) (m c : Nat) (news : List Value) (hx : a.eval x = .slice A m c) (hl : news.length = m * size)
    (hA : m = 0 ∨ ∃ ad, A = some ad ∧ ∀ (j : Nat) (u : Value), news[j]? = some u → w.cell? (ad.add j) = some u) (h1 : ∀ u ∈ news, u.oneCell' = true)
    (h63 : n + m ≤ maxLen) (hbytes : (n + m) * bytes ≤ 140737488355328) (hbase : base ≤ w.heap.size) (H : Nat) (hH : w.heap.size = H)
    (h : ∀ v' w', w'.ownsRow base e size v' (n + m) (xs ++ news) → w.grownBy w' v.ownBlock → (v'.ownBlock = v.ownBlock ∨ v'.ownBlock = some H) → K (a.put o.dst v') w') : o.wp P a w K Q := by
  subst hH
  cases A with
  | none =>
    have hm0 : m = 0 := by
      rcases hA with hA | ⟨ad, hA, _⟩
      · exact hA
      · cases hA
    subst hm0
    have hn : news = [] := List.eq_nil_of_length_eq_zero (by rw [hl, Nat.zero_mul])
    subst hn
    have hrun := run_append_nil (P := P) (w := w) base t o.type e i size ht hi v n c xs hown
    unfold Oper.wp
    simp [execOp, ho, resolve, invoke, builtin, hs, hx, hrun, Result.andThen]
    refine h v w ?_ ⟨rfl, rfl, rfl, Nat.le_refl _, fun _ _ _ => rfl⟩ (.inl rfl)
    simpa using hown
  | some ad =>
    have hc : ∀ (j : Nat) (u : Value), news[j]? = some u → w.cell? (ad.add j) = some u := by
      rcases hA with hA | ⟨ad', hA, hc⟩
      · subst hA
        have hn : news = [] := List.eq_nil_of_length_eq_zero (by rw [hl, Nat.zero_mul])
        subst hn
        intro j u hj
        simp at hj
      · injection hA with hA; subst hA; exact hc
    obtain ⟨v', w', hr, h2, h3, _, h5⟩ := run_append_own_at (P := P) w base t o.type e i z size bytes ht hi hz hsize hby hzs hsz v n xs hown ad m c news hl hc h1 h63 hbytes hbase
    unfold Oper.wp execOp
    simp only [ho, resolve, invoke, builtin, Sem.run_bind, Sem.run_pure, Result.andThen_ok, List.map_toArray, List.map_cons, List.map_nil, hs, hx, hr]
    exact h v' w' h2 h3 h5

/-- At a step of a region that draws its order. -/
theorem step_append_any {P : Program} {w : World} {ops : Array Oper} {o : Oper} {a : Act} {K : Act → World → Prop} {Q : Exit → Act → World → Prop} {E : Prop} (hgd : o.guard = none) (s x : Operand) (t : TypeId)
    (ho : o.op = .call { callee := .builtin .append, args := #[s, x], argTypes := #[t, t] })
    (base : Nat) (e : TypeId) (i : TypeInfo) (z : Value) (size bytes : Nat) (ht : P.underlying t = some (.slice e)) (hi : P.info? e = some i) (hz : i.zero = some z)
    (hsize : i.size = size) (hby : i.bytes = bytes) (hzs : z.cells.size = size) (hsz : 0 < size)
    (v : Value) (n : Nat) (xs : List Value) (hs : a.eval s = v) (hown : w.ownsRow base e size v n xs)
    (A : Option Addr) (m c : Nat) (news : List Value) (hx : a.eval x = .slice A m c) (hl : news.length = m * size)
    (hA : m = 0 ∨ ∃ ad, A = some ad ∧ ∀ (j : Nat) (u : Value), news[j]? = some u → w.cell? (ad.add j) = some u) (h1 : ∀ u ∈ news, u.oneCell' = true)
    (h63 : n + m ≤ maxLen) (hbytes : (n + m) * bytes ≤ 140737488355328) (hbase : base ≤ w.heap.size) (H : Nat) (hH : w.heap.size = H)
    (h : ∀ v' w', w'.ownsRow base e size v' (n + m) (xs ++ news) → w.grownBy w' v.ownBlock → (v'.ownBlock = v.ownBlock ∨ v'.ownBlock = some H) → K (a.put o.dst v') w') :
    if Region.wanted o (yielded ops a.tmps) = true then Oper.wp P o a w K Q else E := by
  have hw : Region.wanted o (yielded ops a.tmps) = true := by simp [Region.wanted, hgd]
  rw [if_pos hw]
  exact wp_append_any s x t ho base e i z size bytes ht hi hz hsize hby hzs hsz v n xs hs hown A m c news hx hl hA h1 h63 hbytes hbase H hH h
end Go.Proofs.Ytbcfeoobhemdcaa
namespace Go.Proofs.Ytbcfeoobhemdcaa
open Go.RowKit Go.Lib

theorem wpList_append_any {P : Program} {w : World} {ops : Array Oper} {rest : List Oper} {o : Oper} {a : Act} {Q : Exit → Act → World → Prop} (hgd : o.guard = none) (s x : Operand) (t : TypeId)
    (ho : o.op = .call { callee := .builtin .append, args := #[s, x], argTypes := #[t, t] })
    (base : Nat) (e : TypeId) (i : TypeInfo) (z : Value) (size bytes : Nat) (ht : P.underlying t = some (.slice e)) (hi : P.info? e = some i) (hz : i.zero = some z)
    (hsize : i.size = size) (hby : i.bytes = bytes) (hzs : z.cells.size = size) (hsz : 0 < size)
    (v : Value) (n : Nat) (xs : List Value) (hs : a.eval s = v) (hown : w.ownsRow base e size v n xs)
    (A : Option Addr) (m c : Nat) (news : List Value) (hx : a.eval x = .slice A m c) (hl : news.length = m * size)
    (hA : m = 0 ∨ ∃ ad, A = some ad ∧ ∀ (j : Nat) (u : Value), news[j]? = some u → w.cell? (ad.add j) = some u) (h1 : ∀ u ∈ news, u.oneCell' = true)
    (h63 : n + m ≤ maxLen) (hbytes : (n + m) * bytes ≤ 140737488355328) (hbase : base ≤ w.heap.size) (H : Nat) (hH : w.heap.size = H)
    (h : ∀ v' w', w'.ownsRow base e size v' (n + m) (xs ++ news) → w.grownBy w' v.ownBlock → (v'.ownBlock = v.ownBlock ∨ v'.ownBlock = some H) → wpList P ops Q rest (a.put o.dst v') w') : wpList P ops Q (o :: rest) a w :=
  wpList_plain hgd fun _ hK => wp_append_any s x t ho base e i z size bytes ht hi hz hsize hby hzs hsz v n xs hs hown A m c news hx hl hA h1 h63 hbytes hbase H hH fun v' w' h2 h3 h4 => hK _ _ (h v' w' h2 h3 h4)

/-- These cells are those types, one after another; what they lead to lies in P. -/
def ElemsT (w : World) (P : Nat → Prop) : List TypeX → List Value → Prop
  | [], vs => vs = []
  | x :: r, vs => ∃ (A : Option Addr) (c : Nat) (rest : List Value), vs = .int .i64 x.kind_ :: .string x.name_ :: .slice A x.args_.length c :: rest ∧ TypeRow w P A c x.args_ ∧ ElemsT w P r rest
theorem ElemsT.length {w : World} {P : Nat → Prop} : ∀ {l : List TypeX} {vs : List Value}, ElemsT w P l vs → vs.length = l.length * 3
  | [], vs, h => by rw [ElemsT] at h; subst h; rfl
  | x :: r, vs, h => by
    obtain ⟨A, c, rest, rfl, _, h2⟩ := h
    simp only [List.length_cons, h2.length]; omega
theorem ElemsT.last {w : World} {P : Nat → Prop} : ∀ {l : List TypeX} {x : TypeX} {vs : List Value}, ElemsT w P (l ++ [x]) vs → ∃ vs0 A c, vs = vs0 ++ [.int .i64 x.kind_, .string x.name_, .slice A x.args_.length c] ∧ ElemsT w P l vs0 ∧ TypeRow w P A c x.args_
  | [], x, vs, h => by
    obtain ⟨A', c', rest, rfl, h1, h2⟩ := h
    rw [ElemsT] at h2; subst h2
    exact ⟨[], A', c', rfl, rfl, h1⟩
  | y :: r, x, vs, h => by
    obtain ⟨A', c', rest, rfl, h1, h2⟩ := h
    obtain ⟨vs0, A, c, rfl, h3, h4⟩ := ElemsT.last (l := r) h2
    exact ⟨_ :: _ :: _ :: vs0, A, c, rfl, ⟨A', c', vs0, rfl, h1, h3⟩, h4⟩
theorem ElemsT.append {w : World} {P : Nat → Prop} : ∀ {l : List TypeX} {vs : List Value}, ElemsT w P l vs → ∀ {m : List TypeX} {us : List Value}, ElemsT w P m us → ElemsT w P (l ++ m) (vs ++ us)
  | [], vs, h, m, us, hm => by rw [ElemsT] at h; subst h; exact hm
  | y :: r, vs, h, m, us, hm => by
    obtain ⟨A', c', rest, rfl, h1, h2⟩ := h
    exact ⟨A', c', rest ++ us, rfl, h1, h2.append hm⟩
theorem ElemsT.of_rows {w : World} {P : Nat → Prop} : ∀ {l : List TypeX} {vs : List Value}, RdVE w P 3 (TypeX.rows l) vs → ElemsT w P l vs ∧ ∀ u ∈ vs, u.oneCell' = true
  | [], vs, h => by rw [TypeX.rows, RdVE] at h; subst h; exact ⟨rfl, by simp⟩
  | x :: r, vs, h => by
    rw [TypeX.rows, RdVE] at h
    obtain ⟨v1, v2, rfl, _, h1, h2⟩ := h
    obtain ⟨h3, h4⟩ := ElemsT.of_rows h2
    rw [TypeX.cells_eq] at h1
    simp only [RdVs] at h1
    obtain ⟨u0, _, rfl, g0, u1, _, rfl, g1, u2, _, rfl, g2, rfl⟩ := h1
    rw [RdV_pl] at g0 g1
    subst g0 g1
    obtain ⟨A, c, rfl, k2⟩ := TypeRow.of_read g2
    refine ⟨⟨A, c, v2, rfl, k2, h3⟩, fun u hu => ?_⟩
    simp at hu
    rcases hu with rfl | rfl | rfl | hu
    · rfl
    · rfl
    · rfl
    · exact h4 u hu
theorem TypeRow.cells {w : World} {P : Nat → Prop} {A : Option Addr} {c : Nat} {l : List TypeX} (h : TypeRow w P A c l) :
    ∃ us : List Value, ElemsT w P l us ∧ us.length = l.length * 3 ∧ (∀ u ∈ us, u.oneCell' = true) ∧ (l.length = 0 ∨ ∃ b o, A = some ⟨b, o, none⟩ ∧ P b ∧ ∀ (j : Nat) (u : Value), us[j]? = some u → w.cell? ⟨b, o + j, none⟩ = some u) := by
  obtain ⟨A', c', e, _, _, h⟩ := RdV_row.1 h
  injection e with e1 _ _
  subst e1
  rcases h with h | ⟨b, o, hA, hP, vs, hE, hc⟩
  · have hl : l = [] := by rw [TypeX.rows_map] at h; simpa using h
    subst hl
    exact ⟨[], rfl, rfl, by simp, .inl rfl⟩
  · obtain ⟨h1, h2⟩ := ElemsT.of_rows hE
    exact ⟨vs, h1, h1.length, h2, .inr ⟨b, o, hA, hP, hc⟩⟩
theorem sizeL_snoc : ∀ (l : List TypeX) (x : TypeX), TypeX.sizeL (l ++ [x]) = TypeX.sizeL l + x.size
  | [], x => by simp [TypeX.sizeL]
  | y :: r, x => by rw [List.cons_append, TypeX.sizeL, TypeX.sizeL, sizeL_snoc r x]; omega
theorem sizeL_append : ∀ (l m : List TypeX), TypeX.sizeL (l ++ m) = TypeX.sizeL l + TypeX.sizeL m
  | [], m => by simp [TypeX.sizeL]
  | y :: r, m => by rw [List.cons_append, TypeX.sizeL, TypeX.sizeL, sizeL_append r m]; omega
theorem sizeL_length : ∀ (l : List TypeX), l.length ≤ TypeX.sizeL l
  | [] => Nat.zero_le _
  | x :: r => by have := sizeL_length r; have := TypeX.size_eq x; rw [TypeX.sizeL, List.length_cons]; omega
/-- The same cells, in a world that has grown. -/
theorem cells_inT {w w' : World} {B : Nat} {A : Option Addr} {n : Nat} {us : List Value} (hb : Below B w w') (h : n = 0 ∨ ∃ b o, A = some ⟨b, o, none⟩ ∧ Und B b ∧ ∀ (j : Nat) (u : Value), us[j]? = some u → w.cell? ⟨b, o + j, none⟩ = some u) :
    n = 0 ∨ ∃ ad, A = some ad ∧ ∀ (j : Nat) (u : Value), us[j]? = some u → w'.cell? (ad.add j) = some u := by
  rcases h with h | ⟨b, o, rfl, hP, h3⟩
  · exact .inl h
  · refine .inr ⟨_, rfl, fun j u hj => ?_⟩
    rw [Go.WideShapes.add_plain]
    exact (hb.cell (p := ⟨b, o + j, none⟩) hP).trans (h3 j u hj)
theorem pop_eqT {ls ms : List TypeX} {p q : TypeX} {Q : Prop} (h : Q ↔ ls ++ [p] = ms ++ [q]) (hl : ls.length = ms.length) : (p.kind_ = q.kind_ → p.name_ = q.name_ → p.args_.length = q.args_.length → (Q ↔ ls ++ p.args_ = ms ++ q.args_)) ∧ (p.kind_ ≠ q.kind_ ∨ p.name_ ≠ q.name_ ∨ p.args_.length ≠ q.args_.length → ¬ Q) := by
  cases p with | mk k a l => cases q with | mk k' b m =>
  constructor
  · intro hk ha hn
    rw [h]
    simp only [TypeX.kind_, TypeX.name_, TypeX.args_] at hk ha hn ⊢
    subst hk ha
    constructor
    · intro e
      obtain ⟨e1, e2⟩ := List.append_inj e hl
      simp at e2
      rw [e1, e2]
    · intro e
      obtain ⟨e1, e2⟩ := List.append_inj e hl
      rw [e1, e2]
  · intro hne hq
    obtain ⟨_, e2⟩ := List.append_inj (h.1 hq) hl
    simp at e2
    rcases hne with h | h | h
    · exact h e2.1
    · exact h e2.2.1
    · exact h (by simp only [TypeX.args_]; rw [e2.2.2])
theorem two_boxesT {w : World} {T : TypeId} (ca cb : Array Value) :
    Whole (((w.alloc (.cells ca T)).alloc (.cells cb T)).drew) w.heap.size T ca ∧ Whole (((w.alloc (.cells ca T)).alloc (.cells cb T)).drew) (w.heap.size + 1) T cb := by
  constructor
  · exact ((Whole.new w T ca).below ((Below.refl _ _).alloc (Nat.le_refl _) _) (by simp) : Whole ((w.alloc (.cells ca T)).alloc (.cells cb T)) w.heap.size T ca)
  · have h := Whole.new (w.alloc (.cells ca T)) T cb
    rw [World.size_alloc] at h
    exact h
theorem two_rowsT {w : World} {T : TypeId} {B : Nat} (a b c a' b' c' : Value) (hB : B ≤ w.heap.size) :
    (((w.alloc (.cells #[a, b, c] T)).alloc (.cells #[a', b', c'] T)).drew).ownsRow B T 3 (.slice (some ⟨w.heap.size, 0, none⟩) 1 1) 1 [a, b, c] ∧ (((w.alloc (.cells #[a, b, c] T)).alloc (.cells #[a', b', c'] T)).drew).ownsRow B T 3 (.slice (some ⟨w.heap.size + 1, 0, none⟩) 1 1) 1 [a', b', c'] := by
  constructor
  · exact ((World.ownsRow_lit w #[a, b, c] 1 hB (by decide) rfl).alloc _ : ((w.alloc (.cells #[a, b, c] T)).alloc (.cells #[a', b', c'] T)).ownsRow B T 3 (.slice (some ⟨w.heap.size, 0, none⟩) 1 1) 1 [a, b, c])
  · have h := World.ownsRow_lit (base := B) (size := 3) (e := T) (w.alloc (.cells #[a, b, c] T)) #[a', b', c'] 1 (by simp; omega) (by decide) rfl
    rw [World.size_alloc] at h
    exact h

theorem infoTy : (Try.prog.info? 35).map (fun i => (i.zero, i.size, i.bytes)) = some (some (.agg #[.int .i64 0, .string ByteArray.empty, .slice none 0 0]), 3, 48) := by kernel_rfl

end Go.Proofs.Ytbcfeoobhemdcaa
namespace Go.Proofs.Ytbcfeoobhemdcaa
open Go.RowKit Go.Lib

/-- A block that is there, and none of G. -/
def Nog (G : Nat → Prop) (w : World) (b : Nat) : Prop := b < w.heap.size ∧ ¬ G b
/-- A ROW OF TYPES of the call's own; what its types lead to lies neither in it nor in G. -/
def TopT (G : Nat → Prop) (w w' : World) (V : Value) (l : List TypeX) : Prop :=
  ∃ us, w'.ownsRow w.heap.size 35 3 V l.length us ∧ ElemsT w' (fun b => Nog G w' b ∧ V.ownBlock ≠ some b) l us
/-- A TYPE whose arguments' row is the call's own. -/
def MadeT (G : Nat → Prop) (x : TypeX) (w : World) (e : Ending) (w' : World) : Prop := ∃ V, e = .returned (.agg #[.int .i64 x.kind_, .string x.name_, V]) ∧ TopT G w w' V x.args_

theorem ElemsT.frame {w w' : World} {P Q : Nat → Prop} (hPQ : ∀ b, P b → Q b) (hk : ∀ b o, P b → w'.cell? ⟨b, o, none⟩ = w.cell? ⟨b, o, none⟩) : ∀ {l : List TypeX} {us : List Value}, ElemsT w P l us → ElemsT w' Q l us
  | [], us, h => h
  | x :: r, us, h => by
    obtain ⟨A, c, rest, rfl, h1, h2⟩ := h
    exact ⟨A, c, rest, rfl, h1.frame hPQ hk, ElemsT.frame hPQ hk h2⟩
theorem ElemsT.rows {w : World} {P : Nat → Prop} : ∀ {l : List TypeX} {us : List Value}, ElemsT w P l us → RdVE w P 3 (TypeX.rows l) us
  | [], us, h => by rw [ElemsT] at h; subst h; rw [TypeX.rows, RdVE]
  | x :: r, us, h => by
    obtain ⟨A, c, rest, rfl, h1, h2⟩ := h
    rw [TypeX.rows, RdVE]
    refine ⟨[.int .i64 x.kind_, .string x.name_, .slice A x.args_.length c], rest, rfl, x.cells_length, ?_, h2.rows⟩
    rw [TypeX.cells_eq]
    simp only [RdVs]
    exact ⟨_, _, rfl, by rw [RdV_pl], _, _, rfl, by rw [RdV_pl], _, _, rfl, h1, rfl⟩
theorem ElemsT.one {w : World} {P : Nat → Prop} {l : List TypeX} {us : List Value} (h : ElemsT w P l us) : ∀ u ∈ us, u.oneCell' = true := (ElemsT.of_rows h.rows).2
/-- An owned row of types reads as one. -/
theorem own_typeRow {w : World} {P Q : Nat → Prop} {B : Nat} {V : Value} {l : List TypeX} {us : List Value} (ho : w.ownsRow B 35 3 V l.length us) (he : ElemsT w P l us) (hPQ : ∀ b, P b → Q b) (hV : ∀ b, V.ownBlock = some b → Q b) :
    ∃ A c, V = .slice A l.length c ∧ TypeRow w Q A c l := by
  have hE : RdVE w Q 3 (TypeX.rows l) us := (he.frame hPQ (fun _ _ _ => rfl)).rows
  rcases ho.2 with ⟨rfl, hn⟩ | ⟨g, cap, cur, rfl, _, hg, hnc, hcm, _⟩
  · have hl : l = [] := List.eq_nil_of_length_eq_zero hn
    subst hl
    exact ⟨none, 0, rfl, TypeRow.nil _ _ _ _ (by omega)⟩
  · refine ⟨some ⟨g, 0, none⟩, cap, rfl, RdV_row.2 ⟨some ⟨g, 0, none⟩, cap, by rw [TypeX.rows_length], by rw [TypeX.rows_length]; exact hnc, by unfold maxLen at hcm; omega, .inr ⟨g, 0, rfl, hV g rfl, us, hE, fun i v hi => ?_⟩⟩⟩
    have hil : i < l.length * 3 := by rw [← ho.1]; exact (List.getElem?_eq_some_iff.1 hi).1
    rw [Nat.zero_add, World.ownsRow.cellAt ho i hil]
    exact hi
theorem TopT.row {G : Nat → Prop} {w w' : World} {V : Value} {l : List TypeX} (hG : ∀ b, G b → b < w.heap.size) (h : TopT G w w' V l) : ∃ A c, V = .slice A l.length c ∧ TypeRow w' (Nog G w') A c l := by
  obtain ⟨us, ho, he⟩ := h
  exact own_typeRow ho he (fun b h => h.1) (fun b hb => ⟨(ho.lt b hb).2, fun hg => by have := (ho.lt b hb).1; have := hG b hg; omega⟩)
theorem TopT.shape {G : Nat → Prop} {w w' : World} {V : Value} {l : List TypeX} (h : TopT G w w' V l) : ∃ A c, V = .slice A l.length c := by
  obtain ⟨us, ho, _⟩ := h
  rcases ho.2 with ⟨rfl, h0⟩ | ⟨g, cap, cur, rfl, _⟩
  · exact ⟨none, 0, by rw [h0]⟩
  · exact ⟨_, cap, rfl⟩
/-- It stays while only blocks of G change. -/
theorem TopT.but {G : Nat → Prop} {g : Nat} {w w' w'' : World} {V : Value} {l : List TypeX} (hG : ∀ b, G b → b < w.heap.size) (hg : G g) (h : TopT G w w' V l) (hb : But g w' w'') : TopT G w w'' V l := by
  obtain ⟨us, ho, he⟩ := h
  refine ⟨us, own_same ho fun b hv => hb.block b (ho.lt b hv).2 (fun e => by have := (ho.lt b hv).1; have := hG g hg; omega), he.frame (fun b h => ⟨⟨Nat.lt_of_lt_of_le h.1.1 hb.size, h.1.2⟩, h.2⟩) fun b o h => World.cell?_of_block (a := ⟨b, o, none⟩) (hb.block b h.1.1 (fun e => h.1.2 (e ▸ hg)))⟩
theorem TopT.below {G : Nat → Prop} {w w' w'' : World} {V : Value} {l : List TypeX} (h : TopT G w w' V l) (hb : Below w'.heap.size w' w'') : TopT G w w'' V l := by
  obtain ⟨us, ho, he⟩ := h
  refine ⟨us, own_same ho fun b hv => hb.block b (ho.lt b hv).2, he.frame (fun b h => ⟨⟨Nat.lt_of_lt_of_le h.1.1 hb.size, h.1.2⟩, h.2⟩) fun b o h => hb.cell (p := ⟨b, o, none⟩) h.1.1⟩
/-- The same, of a block that is none of the row's. -/
theorem TopT.butX {G : Nat → Prop} {g : Nat} {w w' w'' : World} {V : Value} {l : List TypeX} (h : TopT G w w' V l) (hV : V.ownBlock ≠ some g) (hg : G g) (hb : But g w' w'') : TopT G w w'' V l := by
  obtain ⟨us, ho, he⟩ := h
  refine ⟨us, own_same ho fun b hv => hb.block b (ho.lt b hv).2 (fun e => hV (by rw [hv, e])), he.frame (fun b h => ⟨⟨Nat.lt_of_lt_of_le h.1.1 hb.size, h.1.2⟩, h.2⟩) fun b o h => World.cell?_of_block (a := ⟨b, o, none⟩) (hb.block b h.1.1 (fun e => h.1.2 (e ▸ hg)))⟩
theorem TopT.wide {G : Nat → Prop} {w w1 w' : World} {V : Value} {l : List TypeX} (h : TopT G w1 w' V l) (hs : w.heap.size ≤ w1.heap.size) : TopT G w w' V l := by
  obtain ⟨us, ho, he⟩ := h
  refine ⟨us, ⟨ho.1, ?_⟩, he⟩
  rcases ho.2 with h' | ⟨g, cap, cur, e, hb, rest⟩
  · exact .inl h'
  · exact .inr ⟨g, cap, cur, e, Nat.le_trans hs hb, rest⟩
theorem TopT.less {G G' : Nat → Prop} {w w' : World} {V : Value} {l : List TypeX} (h : TopT G' w w' V l) (hG : ∀ b, G b → G' b) : TopT G w w' V l := by
  obtain ⟨us, ho, he⟩ := h
  exact ⟨us, ho, he.frame (fun b h => ⟨⟨h.1.1, fun hg => h.1.2 (hG b hg)⟩, h.2⟩) fun _ _ _ => rfl⟩
theorem TopT.nil (G : Nat → Prop) (w w' : World) : TopT G w w' (.slice none 0 0) [] := ⟨[], World.ownsRow_nil _ _ _ _, rfl⟩
/-- The result's three cells written. -/
theorem tyEnd {w w3 : World} {a b c : Value} {k : Int} {s : ByteArray} {A : Option Addr} {n cc : Nat} (hx : Whole w3 w.heap.size 35 #[a, b, c]) (hb : Below w.heap.size w w3) :
    ∀ w4, w4 = ((w3.setCell ⟨w.heap.size, 0, none⟩ (.int .i64 k)).setCell ⟨w.heap.size, 1, none⟩ (.string s)).setCell ⟨w.heap.size, 2, none⟩ (.slice A n cc) →
      w4.cell? ⟨w.heap.size, 0, none⟩ = some (.int .i64 k) ∧ w4.cell? ⟨w.heap.size, 1, none⟩ = some (.string s) ∧ w4.cell? ⟨w.heap.size, 2, none⟩ = some (.slice A n cc) ∧ But w.heap.size w3 w4 ∧ Below w.heap.size w w4 := by
  rintro w4 rfl
  have hx3 := ((hx.set_ 0 (.int .i64 k)).set_ 1 (.string s)).set_ 2 (.slice A n cc)
  obtain ⟨e0, e1, e2⟩ := cells3 (by simpa using hx3)
  exact ⟨e0, e1, e2, ((But.set_ _ _ 0 _).trans (But.set_ _ _ 1 _)).trans (But.set_ _ _ 2 _), ((hb.setCell (p := ⟨w.heap.size, 0, none⟩) (Nat.le_refl _) _).setCell (p := ⟨w.heap.size, 1, none⟩) (Nat.le_refl _) _).setCell (p := ⟨w.heap.size, 2, none⟩) (Nat.le_refl _) _⟩

set_option maxRecDepth 100000 in
theorem varC (G : Nat → Prop) (s : ByteArray) (w : World) : Calls Try.prog 137 #[.string s] w fun e w' => MadeT G (.mk 1 s []) w e w' ∧ Below w.heap.size w w' := by
  have hb0 : ∀ a b c, Below w.heap.size w (w.alloc (.cells #[a, b, c] 35)) := fun a b c => (Below.refl _ _).alloc (Nat.le_refl _) _
  go_enter Try.func137, Try.ntmps137
  go_wp2
  exact bodyPost_ret (v := .agg #[.int .i64 1, .string s, .slice none 0 0]) (by simp [results, Try.results137, go_sem]) rfl ⟨⟨_, rfl, TopT.nil _ _ _⟩, hb0 _ _ _⟩

set_option maxRecDepth 100000 in
set_option maxHeartbeats 2000000 in
theorem conC (G : Nat → Prop) (s : ByteArray) (A : Option Addr) (c : Nat) (l : List TypeX) (w : World) (hl : l.length ≤ 1000000) (hA : TypeRow w (Nog G w) A c l) :
    Calls Try.prog 121 #[.string s, .slice A l.length c] w fun e w' => MadeT G (.mk 2 s l) w e w' ∧ Below w.heap.size w w' := by
  obtain ⟨i0, hi, hz0, hz1, hz2⟩ := info_parts infoTy
  obtain ⟨us, he, hul, hone, hadr⟩ := hA.cells
  have hb0 : Below w.heap.size w ((w.alloc (.cells #[.int .i64 0, .string ByteArray.empty, .slice none 0 0] 35)).alloc (.cells #[] 35)) := ((Below.refl _ _).alloc (Nat.le_refl _) _).alloc (by simp) _
  have hown := World.ownsRow_made (base := w.heap.size + 1) (e := 35) (size := 3) (w.alloc (.cells #[.int .i64 0, .string ByteArray.empty, .slice none 0 0] 35)) #[] 0 (by simp) (by decide) rfl
  rw [World.size_alloc] at hown
  have hx0 : Whole ((w.alloc (.cells #[.int .i64 0, .string ByteArray.empty, .slice none 0 0] 35)).alloc (.cells #[] 35)) w.heap.size 35 #[.int .i64 0, .string ByteArray.empty, .slice none 0 0] :=
    (Whole.new w _ _).below ((Below.refl (w.heap.size + 1) _).alloc (by simp) _) (by omega)
  have hcells : l.length = 0 ∨ ∃ ad, A = some ad ∧ ∀ (j : Nat) (u : Value), us[j]? = some u → ((w.alloc (.cells #[.int .i64 0, .string ByteArray.empty, .slice none 0 0] 35)).alloc (.cells #[] 35)).cell? (ad.add j) = some u := by
    rcases hadr with h | ⟨b, o, rfl, hP, hc⟩
    · exact .inl h
    · refine .inr ⟨_, rfl, fun j u hj => ?_⟩
      rw [Go.WideShapes.add_plain]
      exact (hb0.cell (p := ⟨b, o + j, none⟩) hP.1).trans (hc j u hj)
  have HB := Lib.hid hb0
  have HO := Lib.hid hown
  have HX := Lib.hid hx0
  have HC := Lib.hid hcells
  have HE := Lib.hid he
  have HL := Lib.hid hul
  have H1 := Lib.hid hone
  clear hb0 hown hx0 hcells he hul hone hadr hA
  go_enter Try.func121, Try.ntmps121
  go_wp2_with (at_builtin; refine wpList_append_any rfl (.tmp 6) (.tmp 7) 33 rfl (w.heap.size + 1) 35 i0 (.agg #[.int .i64 0, .string ByteArray.empty, .slice none 0 0]) 3 48 Try.underlying33 hi hz0 hz1 hz2 rfl (by decide) (.slice (some ⟨w.heap.size + 1, 0, none⟩) 0 0) 0 [] rfl HO.out A l.length c us rfl HL.out HC.out H1.out (by unfold maxLen; omega) (by omega) (by simp) (w.heap.size + 2) (by simp) ?_)
  intro V w2 hown2 hgrow2 hat2
  have hz2' := hgrow2.size
  simp only [World.size_alloc] at hz2'
  have hx2 : Whole w2 w.heap.size 35 #[.int .i64 0, .string ByteArray.empty, .slice none 0 0] := (hgrow2.block _ HX.out.lt (by simp [Value.ownBlock])).trans HX.out
  have hb2 : Below w.heap.size w w2 := HB.out.grown hgrow2 HB.out.size (fun k hk => by simp [Value.ownBlock] at hk; omega)
  have he2 : ElemsT w2 (fun b => Nog G w b) l us := HE.out.frame (fun b h => h) fun b o hP => hb2.cell (p := ⟨b, o, none⟩) hP.1
  have hVb : ∀ b, V.ownBlock = some b → w.heap.size + 1 ≤ b := fun b hb => (hown2.lt b hb).1
  obtain ⟨A2, n2, hV⟩ := own_nil hown2
  subst hV
  have htop : TopT (fun b => G b ∨ b = w.heap.size) w w2 (.slice A2 l.length n2) l := by
    refine ⟨us, ⟨hown2.1, ?_⟩, he2.frame (fun b h => ⟨⟨by have := h.1; omega, fun hg => hg.elim h.2 (fun e => by have := h.1; omega)⟩, fun e => by have := hVb b e; have := h.1; omega⟩) fun _ _ _ => rfl⟩
    rcases hown2.2 with h' | ⟨g', cap, cur, e, hb, rest⟩
    · exact .inl h'
    · exact .inr ⟨g', cap, cur, e, by omega, rest⟩
  have hend := tyEnd (k := 2) (s := s) (A := A2) (n := l.length) (cc := n2) hx2 hb2
  have hVX : (Value.slice A2 l.length n2).ownBlock ≠ some w.heap.size := fun e => by have := hVb _ e; omega
  obtain ⟨r0, r1, r2⟩ := cells3 hx2
  have rf0 := hx2.frozen 0
  have rf1 := hx2.frozen 1
  have rf2 := hx2.frozen 2
  have hlt := hx2.lt
  have HT := Lib.hid htop
  have HE2 := Lib.hid hend
  have HVX := Lib.hid hVX
  clear htop hend he2 hown2 hgrow2 hat2 hb2 hx2 hVX
  go_wp2
  obtain ⟨e0, e1, e2, hbut, hb3⟩ := HE2.out _ rfl
  exact bodyPost_ret (v := .agg #[.int .i64 2, .string s, .slice A2 l.length n2]) (by simp [results, Try.results121, go_sem, e0, e1, e2]) rfl ⟨⟨_, rfl, (HT.out.butX HVX.out (.inr rfl) hbut).less fun b h => .inl h⟩, hb3⟩
end Go.Proofs.Ytbcfeoobhemdcaa
namespace Go.Proofs.Ytbcfeoobhemdcaa
open Go.RowKit

/-- The list holds the string. -/
def has (l : List ByteArray) (s : ByteArray) : Bool := l.any fun x => x.data.toList == s.data.toList
theorem data_inj {x s : ByteArray} (h : x.data.toList = s.data.toList) : x = s := ByteArray.ext (Array.toList_inj.1 h)
theorem has_snoc (l : List ByteArray) (x s : ByteArray) : has (l ++ [x]) s = (has l s || x.data.toList == s.data.toList) := by simp [has]
theorem has_append (l m : List ByteArray) (s : ByteArray) : has (l ++ m) s = (has l s || has m s) := by simp [has]
theorem has_iff {l : List ByteArray} {s : ByteArray} : has l s = true ↔ s ∈ l := by
  rw [has, List.any_eq_true]
  constructor
  · rintro ⟨x, hx, h⟩
    rw [beq_iff_eq] at h
    rw [← data_inj h]; exact hx
  · intro h
    exact ⟨s, h, by simp⟩

/-- What a map of strings to bools reads as: true just at these. -/
def SetIs (D : DataW Unit) (l : List ByteArray) : Prop := Maps.IsMap D ∧ ∀ s : ByteArray, D.atKey (.string s.data.toList) (.lit (.bool false)) = .lit (.bool (has l s))
theorem SetIs.nil : SetIs (.map []) [] := ⟨Maps.isMap_empty, fun _ => rfl⟩
theorem SetIs.put {D : DataW Unit} {l : List ByteArray} (h : SetIs D l) (x : ByteArray) : SetIs (D.put (.string x.data.toList) (.lit (.bool true))) (l ++ [x]) := by
  refine ⟨h.1.put _ _, fun s => ?_⟩
  rw [has_snoc]
  by_cases e : s.data.toList = x.data.toList
  · rw [e, Maps.atKey_put_same h.1 (k := .string x.data.toList) (show WideAt.IsKeyLit (.string x.data.toList) from trivial)]
    simp
  · rw [Maps.atKey_put_other (fun he => e (by injection he)), h.2 s]
    have : (x.data.toList == s.data.toList) = false := by rw [beq_eq_false_iff_ne]; exact fun he => e he.symm
    rw [this, Bool.or_false]
theorem boolElem_inv {H : Type} {P : Program} {e : TypeId} (he : P.underlying e = some .bool) {v : Value} {z : DataW H × List MemPlace} (h : plainElem P e v = some z) : ∃ x, v = .bool x ∧ z = (.lit (.bool x), []) := by
  unfold plainElem at h
  rw [he] at h
  cases v <;> simp at h
  exact ⟨_, rfl, h.symm⟩

/-- Block b is a map of at most n entries that holds true just at these strings. -/
def Seen (P : Program) (k e : TypeId) (w : World) (b n : Nat) (l : List ByteArray) : Prop := ∃ D : DataW Unit, w.ownsMap P k (plainElem P e) b n D ∧ SetIs D l
theorem Seen.made {P : Program} {k e : TypeId} (w : World) : Seen P k e (w.alloc (.map #[] 0)) w.heap.size 0 [] := ⟨_, World.ownsMap_made _ _ _ _, SetIs.nil⟩
theorem Seen.kept {P : Program} {k e : TypeId} {w w' : World} {b n : Nat} {l : List ByteArray} {row : Option Nat} (h : Seen P k e w b n l) (hg : w.grownBy w' row) (hne : some b ≠ row) : Seen P k e w' b n l := by
  obtain ⟨D, h1, h2⟩ := h
  exact ⟨D, h1.kept hg hne, h2⟩
theorem Seen.lt {P : Program} {k e : TypeId} {w : World} {b n : Nat} {l : List ByteArray} (h : Seen P k e w b n l) : b < w.heap.size := by
  obtain ⟨D, h1, _⟩ := h
  exact h1.lt
theorem Seen.look {P : Program} {t k e : TypeId} {w : World} {b n : Nat} {l : List ByteArray} (h : Seen P k e w b n l) (ht : P.underlying t = some (.map k e)) (hk : P.underlying k = some .string) (he : P.underlying e = some .bool) (hz : (zeroValue e).run P w = .ok (.bool false) w) (s : ByteArray) (hs : s.size ≤ 9223372036854775807) :
    (Instr.lookup t (.map (some b)) (.string s) false).run P w = .ok (.bool (has l s)) w := by
  obtain ⟨D, h1, h2⟩ := h
  obtain ⟨v, ps, hrun, hv⟩ := h1.lookup (Maps.string_keyed hk) ht hz (plainElem_bool he false) (WideMaps.keyOf_string_mk hk (by unfold maxLen; omega))
  obtain ⟨x, rfl, hx⟩ := boolElem_inv he hv
  rw [h2.2 s] at hx
  simp only [Prod.mk.injEq, DataW.lit.injEq, Lit.bool.injEq] at hx
  rw [hrun, hx.1]
theorem Seen.store {P : Program} {t k e : TypeId} {w : World} {b n : Nat} {l : List ByteArray} (h : Seen P k e w b n l) (ht : P.underlying t = some (.map k e)) (hk : P.underlying k = some .string) (he : P.underlying e = some .bool) (hn : n ≤ 17179869184) (s : ByteArray) (hs : s.size ≤ 9223372036854775807) :
    ∃ w', (Instr.mapUpdate t (.map (some b)) (.string s) (.bool true)).run P w = .ok () w' ∧ Seen P k e w' b (n + 1) (l ++ [s]) ∧ w.grownBy w' (some b) := by
  obtain ⟨D, h1, h2⟩ := h
  obtain ⟨w', hrun, hown, hg⟩ := h1.update (Maps.string_keyed hk) ht (by unfold maxLen; omega) (WideMaps.keyOf_string_mk hk (by unfold maxLen; omega)) (plainElem_bool he true)
  exact ⟨w', hrun, ⟨_, hown, h2.put s⟩, hg⟩

section
variable {P : Program} (w : World) {ops : Array Oper} {rest : List Oper} {o : Oper} {a : Act} {Q : Exit → Act → World → Prop}
/-- 'm[s]', for the walk. -/
theorem wp_seen_look (hg : o.guard = none) (m x : Operand) (t : TypeId) (hop : o.op = Op.lookup t m x false) (k e : TypeId) (ht : P.underlying t = some (.map k e)) (hk : P.underlying k = some .string) (he : P.underlying e = some .bool) (hz : (zeroValue e).run P w = .ok (.bool false) w)
    (b n : Nat) (l : List ByteArray) (hm : a.eval m = .map (some b)) (h : Seen P k e w b n l) (key : Value) (hx : a.eval x = key) (s : ByteArray) (hk2 : key = .string s) (hs : s.size ≤ 9223372036854775807)
    (hK : wpList P ops Q rest (a.put o.dst (.bool (has l s))) w) : wpList P ops Q (o :: rest) a w := by
  subst hk2
  refine wpList_plain hg fun K' hK' => ?_
  have hrun := h.look ht hk he hz s hs
  unfold Oper.wp
  simp [execOp, hop, hm, hx, hrun, Result.andThen]
  exact hK' _ _ hK
/-- 'm[s] = true', for the walk. -/
theorem wp_seen_store (hg : o.guard = none) (m x v : Operand) (t : TypeId) (hop : o.op = Op.mapUpdate t m x v) (k e : TypeId) (ht : P.underlying t = some (.map k e)) (hk : P.underlying k = some .string) (he : P.underlying e = some .bool)
    (b n : Nat) (l : List ByteArray) (hm : a.eval m = .map (some b)) (h : Seen P k e w b n l) (hn : n ≤ 17179869184) (key val : Value) (hx : a.eval x = key) (hv : a.eval v = val) (s : ByteArray) (hk2 : key = .string s) (hv2 : val = .bool true) (hs : s.size ≤ 9223372036854775807)
    (hK : ∀ w', Seen P k e w' b (n + 1) (l ++ [s]) → w.grownBy w' (some b) → wpList P ops Q rest (a.put o.dst undef) w') : wpList P ops Q (o :: rest) a w := by
  subst hk2 hv2
  refine wpList_plain hg fun K' hK' => ?_
  obtain ⟨w', hrun, r1, r2⟩ := h.store ht hk he hn s hs
  unfold Oper.wp
  simp [execOp, hop, hm, hx, hv, hrun, Result.andThen]
  exact hK' _ _ (hK w' r1 r2)
/-- An entry of a map's literal, for the walk. -/
theorem wp_seen_insert (hg : o.guard = none) (m x v : Operand) (t : TypeId) (hop : o.op = Op.insert t m x v) (k e : TypeId) (ht : P.underlying t = some (.map k e)) (hk : P.underlying k = some .string) (he : P.underlying e = some .bool)
    (b n : Nat) (l : List ByteArray) (hm : a.eval m = .map (some b)) (h : Seen P k e w b n l) (hn : n ≤ 17179869184) (key val : Value) (hx : a.eval x = key) (hv : a.eval v = val) (s : ByteArray) (hk2 : key = .string s) (hv2 : val = .bool true) (hs : s.size ≤ 9223372036854775807)
    (hK : ∀ w', Seen P k e w' b (n + 1) (l ++ [s]) → w.grownBy w' (some b) → wpList P ops Q rest (a.put o.dst undef) w') : wpList P ops Q (o :: rest) a w := by
  subst hk2 hv2
  refine wpList_plain hg fun K' hK' => ?_
  obtain ⟨w', hrun, r1, r2⟩ := h.store ht hk he hn s hs
  unfold Oper.wp
  simp [execOp, hop, hm, hx, hv, hrun, Result.andThen]
  exact hK' _ _ (hK w' r1 r2)
end
end Go.Proofs.Ytbcfeoobhemdcaa
namespace Go.Proofs.Ytbcfeoobhemdcaa
open Go.RowKit

theorem text_ne {a b : ByteArray} (h : a ≠ b) : (a.toList == b.toList) = false := by
  rw [beq_eq_false_iff_ne]
  intro e
  rw [ByteArray.toList_eq, ByteArray.toList_eq] at e
  exact h (ByteArray.ext (Array.toList_inj.1 e))
theorem has_take {ss : List ByteArray} {k : Nat} (h : k < ss.length) (s : ByteArray) : has (ss.take (k + 1)) s = (has (ss.take k) s || ss[k].data.toList == s.data.toList) := by
  rw [List.take_succ_eq_append_getElem h, has_snoc]
theorem has_of_take {ss : List ByteArray} {k : Nat} {s : ByteArray} (h : has (ss.take k) s = true) : has ss s = true := by
  rw [has_iff] at h ⊢
  exact List.mem_of_mem_take h

set_option maxRecDepth 100000 in
set_option maxHeartbeats 400000 in
theorem specHas (A : Option Addr) (c : Nat) (ss : List ByteArray) (s : ByteArray) (w : World) (hA : Strs w A ss) (hn : ss.length ≤ 9223372036854775807) :
    Calls Try.prog 128 #[.slice A ss.length c, .string s] w fun e w' => e = .returned (.bool (has ss s)) ∧ w = w' := by
  have HA := Lib.hid hA
  clear hA
  go_enter Try.func128, Try.ntmps128
  go_wp2
  go_loop [5] (fun i => ∃ k : Nat, k ≤ ss.length ∧ i = .int .i64 k ∧ has (ss.take k) s = false) (fun i => ss.length - (Go.RowKit.intOf i).toNat)
  case atStart => exact ⟨0, Nat.zero_le _, rfl, rfl⟩
  case round =>
    obtain ⟨k, hk, rfl, hno⟩ := hrel
    by_cases hlt : k < ss.length
    · obtain ⟨g, o, rfl, hc⟩ := HA.out.at_ hlt
      have hst := has_take hlt s
      rw [hno, Bool.false_or] at hst
      have hup := @has_of_take ss (k + 1) s
      have HS := Lib.hid hst
      have HU := Lib.hid hup
      clear hst hup hno
      cases he : ss[k].data.toList == s.data.toList with
      | true =>
        have hy := HU.out (HS.out.trans he)
        have HY := Lib.hid hy
        have he1 : ss[k] = s := data_inj (by simpa using he)
        clear hy
        go_wp2
        go_ret
        exact ⟨congrArg (fun b => Ending.returned (.bool b)) HY.out.symm, rfl⟩
      | false =>
        have hf := HS.out.trans he
        have HF := Lib.hid hf
        have he1 : (ss[k].toList == s.toList) = false := text_ne (by intro e; rw [e] at he; simp at he)
        clear hf
        go_wp2
        go_round
        case rel => exact ⟨k + 1, by omega, by go_num, HF.out⟩
        case measure => simp [Go.RowKit.intOf]; omega
    · have hkl : k = ss.length := by omega
      subst hkl
      rw [List.take_length] at hno
      have HN := Lib.hid hno
      clear hno
      go_wp2
      go_ret
      exact ⟨congrArg (fun b => Ending.returned (.bool b)) HN.out.symm, rfl⟩
end Go.Proofs.Ytbcfeoobhemdcaa
namespace Go.Proofs.Ytbcfeoobhemdcaa
open Go.RowKit Go.Lib

mutual
def TypeX.same : TypeX → TypeX → Bool
  | .mk k s l, .mk k' s' m => (k == k') && (decide (s = s') && (decide (l.length = m.length) && TypeX.sameL l m))
def TypeX.sameL : List TypeX → List TypeX → Bool
  | [], _ => true
  | _ :: _, [] => true
  | x :: r, y :: s => x.same y && TypeX.sameL r s
end
theorem TypeX.same_eq (x y : TypeX) : x.same y = ((x.kind_ == y.kind_) && (decide (x.name_ = y.name_) && (decide (x.args_.length = y.args_.length) && TypeX.sameL x.args_ y.args_))) := by cases x; cases y; rw [TypeX.same]; rfl
theorem TypeX.sameL_take : ∀ (l m : List TypeX) (j : Nat) (h : j < l.length) (h' : j < m.length), TypeX.sameL (l.take (j + 1)) (m.take (j + 1)) = (TypeX.sameL (l.take j) (m.take j) && l[j].same m[j])
  | x :: r, y :: s, 0, _, _ => by simp [TypeX.sameL]
  | x :: r, y :: s, j + 1, h, h' => by
    have := TypeX.sameL_take r s j (by simpa using h) (by simpa using h')
    rw [List.take_succ_cons, List.take_succ_cons, List.take_succ_cons, List.take_succ_cons, TypeX.sameL, TypeX.sameL, this]
    simp [Bool.and_assoc]
theorem TypeX.sameL_false : ∀ (l m : List TypeX) (j : Nat) (h : j < l.length) (h' : j < m.length), l[j].same m[j] = false → TypeX.sameL l m = false
  | x :: r, y :: s, 0, _, _, hf => by rw [TypeX.sameL]; simp at hf; rw [hf]; rfl
  | x :: r, y :: s, j + 1, h, h', hf => by rw [TypeX.sameL, TypeX.sameL_false r s j (by simpa using h) (by simpa using h') (by simpa using hf), Bool.and_false]
mutual
theorem TypeX.same_iff : ∀ (x y : TypeX), x.same y = true ↔ x = y
  | .mk a s l, .mk b t m => by
    rw [TypeX.same, Bool.and_eq_true, Bool.and_eq_true, Bool.and_eq_true, decide_eq_true_eq, decide_eq_true_eq, beq_iff_eq, TypeX.mk.injEq]
    constructor
    · rintro ⟨h1, h2, h3, h4⟩; exact ⟨h1, h2, (TypeX.sameL_iff l m h3).1 h4⟩
    · rintro ⟨h1, h2, h3⟩; subst h3; exact ⟨h1, h2, rfl, (TypeX.sameL_iff l l rfl).2 rfl⟩
theorem TypeX.sameL_iff : ∀ (l m : List TypeX), l.length = m.length → (TypeX.sameL l m = true ↔ l = m)
  | [], m, h => by rw [TypeX.sameL]; simp; exact List.eq_nil_of_length_eq_zero h.symm
  | x :: r, [], h => by simp at h
  | x :: r, y :: s, h => by rw [TypeX.sameL, Bool.and_eq_true, TypeX.same_iff x y, TypeX.sameL_iff r s (by simpa using h), List.cons.injEq]
end
theorem TypeX.sizeL_at : ∀ (l : List TypeX) (j : Nat) (h : j < l.length), l[j].size ≤ TypeX.sizeL l
  | x :: r, 0, _ => by rw [TypeX.sizeL]; simp
  | x :: r, j + 1, h => by
    have := TypeX.sizeL_at r j (by simpa using h)
    rw [TypeX.sizeL]; simp; omega

def SameT (N : Nat) : Prop := ∀ (x y : TypeX) (v v' : Value) (w : World), x.size ≤ N → TypeAt w (Und w.heap.size) x v → TypeAt w (Und w.heap.size) y v' →
  Calls Try.prog 46 #[v, v'] w fun e w' => e = .returned (.bool (x.same y)) ∧ Below w.heap.size w w'
def SameTL (N : Nat) : Prop := ∀ (l m : List TypeX) (A B : Option Addr) (c d : Nat) (w : World), TypeX.sizeL l ≤ N → TypeRow w (Und w.heap.size) A c l → TypeRow w (Und w.heap.size) B d m →
  Calls Try.prog 94 #[.slice A l.length c, .slice B m.length d] w fun e w' => e = .returned (.bool (decide (l.length = m.length) && TypeX.sameL l m)) ∧ Below w.heap.size w w'

set_option maxRecDepth 100000 in
set_option maxHeartbeats 2000000 in
theorem sameTL_step (N : Nat) (ih : SameT N) : SameTL N := by
  intro l m A B c d w hn hA hB
  have hcl := hA.cap
  have hcm := hB.cap
  have HA := Lib.hid hA
  have HB := Lib.hid hB
  have HN := Lib.hid hn
  clear hA hB hn
  by_cases hlen : l.length = m.length
  · rw [decide_eq_true hlen, Bool.true_and, ← hlen]
    have HL := Lib.hid hlen
    clear hlen hcm
    go_enter Try.func94, Try.ntmps94
    go_wp2
    go_loopw [5] (fun iv wr => ∃ k : Nat, k ≤ l.length ∧ iv = .int .i64 k ∧ TypeX.sameL (l.take k) (m.take k) = true ∧ Below w.heap.size w wr) (fun iv _ => l.length - (Go.RowKit.intOf iv).toNat)
    case atStart => exact ⟨0, Nat.zero_le _, rfl, by simp [TypeX.sameL], Below.refl _ _⟩
    case round =>
      obtain ⟨k, hk, rfl, hs, hb⟩ := hrel
      have HT := Lib.hid hs
      clear hs
      by_cases hlt : k < l.length
      · have hlt2 : k < m.length := by have := HL.out; omega
        obtain ⟨b, o, A2, c2, hAe, hP, p0, p1, p2, h2⟩ := (HA.out.grow hb).at_ hlt
        subst hAe
        obtain ⟨b2, o2, B2, d2, hBe, hP2, r0, r1, r2, g2⟩ := (HB.out.grow hb).at_ hlt2
        subst hBe
        have hst := TypeX.sameL_take l m k hlt hlt2
        have hno := TypeX.sameL_false l m k hlt hlt2
        rw [HT.out, Bool.true_and] at hst
        have hnx : l[k].size ≤ N := by have := TypeX.sizeL_at l k hlt; have := HN.out; omega
        have cE : ∀ dr os, Calls Try.prog 46 #[.agg #[.int .i64 l[k].kind_, .string l[k].name_, .slice A2 l[k].args_.length c2], .agg #[.int .i64 m[k].kind_, .string m[k].name_, .slice B2 m[k].args_.length d2]] (Go.Sort.grow (redrawn wr dr) os) fun e w'' => e = .returned (.bool (l[k].same m[k])) ∧ ∃ p : Regrown, w'' = Go.Sort.grow (redrawn wr p.d) p.os :=
          fun dr os => Calls.regrown_of (ih l[k] m[k] _ _ _ hnx ⟨_, _, rfl, h2.grow (below_regrown wr dr os)⟩ ⟨_, _, rfl, g2.grow (below_regrown wr dr os)⟩)
        have kp0 := cell_regrown p0
        have kr0 := cell_regrown r0
        have kp1 := cell_regrown p1
        have kr1 := cell_regrown r1
        have kp2 := cell_regrown p2
        have kr2 := cell_regrown r2
        have hk0 : (0 : Int) ≤ k := by omega
        have HSt := Lib.hid hst
        have HNo := Lib.hid hno
        clear h2 g2 hnx hst hno
        go_wp2
        refine wp_region_quiet_below (by kernel_rfl) (by kernel_rfl) ?_
        repeat (quiet_step (exact cE _ _))
        refine wpQuiet_nil ?_
        intro _ hw'
        obtain ⟨⟨dq, osq⟩, hw''⟩ := hw'
        subst hw''
        have hb3 := hb.trans ((below_regrown wr dq osq).mono hb.size)
        clear cE kp0 kr0 kp1 kr1 kp2 kr2
        cases hc : l[k].same m[k] with
        | true =>
          have HC := Lib.hid hc
          clear hc
          go_wp2
          go_roundw
          case rel => exact ⟨k + 1, by omega, by go_num, by rw [HSt.out, HC.out], hb3⟩
          case measure => simp [Go.RowKit.intOf]; omega
        | false =>
          have HC := Lib.hid hc
          clear hc
          go_wp2
          go_ret
          exact ⟨congrArg (fun b => Ending.returned (.bool b)) (HNo.out HC.out).symm, hb3⟩
      · have hkl : k = l.length := by omega
        subst hkl
        have ht := HT.out
        rw [List.take_length, HL.out, List.take_length] at ht
        have HT' := Lib.hid ht
        clear ht
        go_wp2
        go_ret
        exact ⟨congrArg (fun b => Ending.returned (.bool b)) HT'.out.symm, hb⟩
  · rw [decide_eq_false hlen, Bool.false_and]
    have hlz : ((l.length : Int) == m.length) = false := by rw [beq_eq_false_iff_ne]; omega
    clear hlen
    go_enter Try.func94, Try.ntmps94
    go_wp2
    go_ret
    exact ⟨rfl, Below.refl _ _⟩

set_option maxRecDepth 100000 in
set_option maxHeartbeats 2000000 in
theorem sameT_step (N : Nat) (ih : SameTL N) : SameT (N + 1) := by
  intro x y v v' w hn hv hv'
  obtain ⟨A, c, rfl, hx⟩ := hv
  obtain ⟨B, d, rfl, hy⟩ := hv'
  have hsq := TypeX.same_eq x y
  have hb0 : Below w.heap.size w ((w.alloc (.cells #[.int .i64 x.kind_, .string x.name_, .slice A x.args_.length c] 35)).alloc (.cells #[.int .i64 y.kind_, .string y.name_, .slice B y.args_.length d] 35)) := ((Below.refl _ _).alloc (Nat.le_refl _) _).alloc (by simp) _
  have HX := Lib.hid (hx.grow hb0)
  have HY := Lib.hid (hy.grow hb0)
  have HN := Lib.hid hn
  clear hx hy hn
  cases hk : (x.kind_ == y.kind_) with
  | false =>
    rw [hk, Bool.false_and] at hsq
    have HS := Lib.hid hsq
    clear hsq
    go_enter Try.func46, Try.ntmps46
    go_wp2
    go_ret
    exact ⟨congrArg (fun b => Ending.returned (.bool b)) HS.out.symm, hb0⟩
  | true =>
    rw [hk, Bool.true_and] at hsq
    by_cases hnm : x.name_ = y.name_
    · rw [decide_eq_true hnm, Bool.true_and] at hsq
      have HS := Lib.hid hsq
      have he1 : (x.name_.toList == y.name_.toList) = true := by rw [hnm]; simp
      clear hsq hnm
      go_enter Try.func46, Try.ntmps46
      go_wp2_with fail
      refine (ih x.args_ y.args_ _ _ _ _ _ (by have := HN.out; rw [TypeX.size_eq] at this; omega) HX.out HY.out).mono ?_
      rw [← HS.out]
      rintro e w1 ⟨rfl, hb1⟩
      have hb2 := hb0.trans (hb1.mono hb0.size)
      go_wp2
      go_ret
      exact ⟨rfl, hb2⟩
    · rw [decide_eq_false hnm, Bool.false_and] at hsq
      have HS := Lib.hid hsq
      have he1 : (x.name_.toList == y.name_.toList) = false := text_ne hnm
      clear hsq hnm
      go_enter Try.func46, Try.ntmps46
      go_wp2
      go_ret
      exact ⟨congrArg (fun b => Ending.returned (.bool b)) HS.out.symm, hb0⟩
theorem sameTAll : ∀ N, SameT N
  | 0 => fun x y v v' w hn => by rw [TypeX.size_eq] at hn; omega
  | N + 1 => sameT_step N (sameTL_step N (sameTAll N))
theorem specSameTy (x y : TypeX) (v v' : Value) (w : World) (hv : TypeAt w (Und w.heap.size) x v) (hv' : TypeAt w (Und w.heap.size) y v') :
    Calls Try.prog 46 #[v, v'] w fun e w' => e = .returned (.bool (x.same y)) ∧ Below w.heap.size w w' := sameTAll _ x y v v' w (Nat.le_refl _) hv hv'
end Go.Proofs.Ytbcfeoobhemdcaa
namespace Go.Proofs.Ytbcfeoobhemdcaa
open Go.RowKit Go.Lib

abbrev zeroT : Array Value := #[.int .i64 0, .string ⟨#[]⟩, .slice none 0 0]
/-- A base type: the result's cell laid, l4Con called, the result stored. -/
theorem baseEnd {G : Nat → Prop} {s : ByteArray} {w w2 : World} {e : Ending} (hb0 : Below w.heap.size w (w.alloc (.cells zeroT 35))) (h : MadeT (fun b => G b ∨ b = w.heap.size) (.mk 2 s []) (w.alloc (.cells zeroT 35)) e w2) (hb : Below (w.alloc (.cells zeroT 35)).heap.size (w.alloc (.cells zeroT 35)) w2) :
    ∃ A c, e = .returned (.agg #[.int .i64 2, .string s, .slice A 0 c]) ∧ Whole w2 w.heap.size 35 zeroT ∧ ∀ w4, w4 = ((w2.setCell ⟨w.heap.size, 0, none⟩ (.int .i64 2)).setCell ⟨w.heap.size, 1, none⟩ (.string s)).setCell ⟨w.heap.size, 2, none⟩ (.slice A 0 c) →
      w4.cell? ⟨w.heap.size, 0, none⟩ = some (.int .i64 2) ∧ w4.cell? ⟨w.heap.size, 1, none⟩ = some (.string s) ∧ w4.cell? ⟨w.heap.size, 2, none⟩ = some (.slice A 0 c) ∧ MadeT G (.mk 2 s []) w (.returned (.agg #[.int .i64 2, .string s, .slice A 0 c])) w4 ∧ Below w.heap.size w w4 := by
  obtain ⟨V, rfl, ht⟩ := h
  obtain ⟨A, c, rfl⟩ := ht.shape
  have hx2 : Whole w2 w.heap.size 35 zeroT := (Whole.new w _ _).below hb (by simp)
  refine ⟨A, c, rfl, hx2, fun w4 h4 => ?_⟩
  obtain ⟨e0, e1, e2, hbut, hb4⟩ := tyEnd (k := 2) (s := s) (A := A) (n := 0) (cc := c) hx2 (hb0.trans (hb.mono (by simp))) w4 h4
  have hV : (Value.slice A 0 c).ownBlock ≠ some w.heap.size := fun e => by
    obtain ⟨us, ho, _⟩ := ht
    have := (ho.lt _ e).1
    simp at this
    omega
  exact ⟨e0, e1, e2, ⟨_, rfl, ((ht.butX hV (.inr rfl) hbut).less fun b h => .inl h).wide (by simp)⟩, hb4⟩

set_option maxRecDepth 100000 in
theorem intC (G : Nat → Prop) (w : World) : Calls Try.prog 119 #[] w fun e w' => MadeT G (.mk 2 ⟨#[105, 110, 116]⟩ []) w e w' ∧ Below w.heap.size w w' := by
  have hb0 : Below w.heap.size w (w.alloc (.cells zeroT 35)) := (Below.refl _ _).alloc (Nat.le_refl _) _
  go_enter Try.func119, Try.ntmps119
  go_wp2_with fail
  refine (conC (fun b => G b ∨ b = w.heap.size) ⟨#[105, 110, 116]⟩ none 0 [] _ (by decide) (TypeRow.nil _ _ _ _ (by decide))).mono ?_
  intro e w2 ⟨hm, hb⟩
  obtain ⟨A, c, rfl, hx2, hend⟩ := baseEnd hb0 hm hb
  obtain ⟨r0, r1, r2⟩ := cells3 hx2
  have rf0 := hx2.frozen 0
  have rf1 := hx2.frozen 1
  have rf2 := hx2.frozen 2
  have hlt := hx2.lt
  have HE := Lib.hid hend
  clear hend hx2 hm hb
  go_wp2
  obtain ⟨e0, e1, e2, e3⟩ := HE.out _ rfl
  exact bodyPost_ret (v := .agg #[.int .i64 2, .string ⟨#[105, 110, 116]⟩, .slice A 0 c]) (by simp [results, Try.results119, go_sem, e0, e1, e2]) rfl e3
set_option maxRecDepth 100000 in
theorem boolC (G : Nat → Prop) (w : World) : Calls Try.prog 120 #[] w fun e w' => MadeT G (.mk 2 ⟨#[98, 111, 111, 108]⟩ []) w e w' ∧ Below w.heap.size w w' := by
  have hb0 : Below w.heap.size w (w.alloc (.cells zeroT 35)) := (Below.refl _ _).alloc (Nat.le_refl _) _
  go_enter Try.func120, Try.ntmps120
  go_wp2_with fail
  refine (conC (fun b => G b ∨ b = w.heap.size) ⟨#[98, 111, 111, 108]⟩ none 0 [] _ (by decide) (TypeRow.nil _ _ _ _ (by decide))).mono ?_
  intro e w2 ⟨hm, hb⟩
  obtain ⟨A, c, rfl, hx2, hend⟩ := baseEnd hb0 hm hb
  obtain ⟨r0, r1, r2⟩ := cells3 hx2
  have rf0 := hx2.frozen 0
  have rf1 := hx2.frozen 1
  have rf2 := hx2.frozen 2
  have hlt := hx2.lt
  have HE := Lib.hid hend
  clear hend hx2 hm hb
  go_wp2
  obtain ⟨e0, e1, e2, e3⟩ := HE.out _ rfl
  exact bodyPost_ret (v := .agg #[.int .i64 2, .string ⟨#[98, 111, 111, 108]⟩, .slice A 0 c]) (by simp [results, Try.results120, go_sem, e0, e1, e2]) rfl e3

/-- A result's three cells written, whatever its block. -/
theorem tyEndX {w w3 : World} {X : Nat} {a b c : Value} {k : Int} {s : ByteArray} {A : Option Addr} {n cc : Nat} (hx : Whole w3 X 35 #[a, b, c]) (hX : w.heap.size ≤ X) (hb : Below w.heap.size w w3) :
    ∀ w4, w4 = ((w3.setCell ⟨X, 0, none⟩ (.int .i64 k)).setCell ⟨X, 1, none⟩ (.string s)).setCell ⟨X, 2, none⟩ (.slice A n cc) →
      w4.cell? ⟨X, 0, none⟩ = some (.int .i64 k) ∧ w4.cell? ⟨X, 1, none⟩ = some (.string s) ∧ w4.cell? ⟨X, 2, none⟩ = some (.slice A n cc) ∧ But X w3 w4 ∧ Below w.heap.size w w4 ∧ Whole w4 X 35 #[.int .i64 k, .string s, .slice A n cc] := by
  rintro w4 rfl
  have hx3 : Whole (((w3.setCell ⟨X, 0, none⟩ (.int .i64 k)).setCell ⟨X, 1, none⟩ (.string s)).setCell ⟨X, 2, none⟩ (.slice A n cc)) X 35 #[.int .i64 k, .string s, .slice A n cc] := by
    simpa using ((hx.set_ 0 (.int .i64 k)).set_ 1 (.string s)).set_ 2 (.slice A n cc)
  obtain ⟨e0, e1, e2⟩ := cells3 hx3
  exact ⟨e0, e1, e2, ((But.set_ _ _ 0 _).trans (But.set_ _ _ 1 _)).trans (But.set_ _ _ 2 _), ((hb.setCell (p := ⟨X, 0, none⟩) hX _).setCell (p := ⟨X, 1, none⟩) hX _).setCell (p := ⟨X, 2, none⟩) hX _, hx3⟩
/-- The row of a type under way is not a block of G. -/
theorem TopT.ne {G : Nat → Prop} {X : Nat} {w w' : World} {V : Value} {l : List TypeX} (h : TopT G w w' V l) (hX : X < w.heap.size) : V.ownBlock ≠ some X := fun e => by
  obtain ⟨us, ho, _⟩ := h
  have := (ho.lt _ e).1
  omega

/-! Copies. -/
def CopyT (N : Nat) : Prop := ∀ (G : Nat → Prop) (x : TypeX) (v : Value) (w : World), (∀ b, G b → b < w.heap.size) → x.size ≤ N → N ≤ 1000000 → TypeAt w (Nog G w) x v →
  Calls Try.prog 155 #[v] w fun e w' => MadeT G x w e w' ∧ Below w.heap.size w w'
def CopiesT (N : Nat) : Prop := ∀ (G : Nat → Prop) (l : List TypeX) (A : Option Addr) (c : Nat) (w : World), (∀ b, G b → b < w.heap.size) → TypeX.sizeL l ≤ N → N ≤ 1000000 → TypeRow w (Nog G w) A c l →
  Calls Try.prog 159 #[.slice A l.length c] w fun e w' => (∃ V, e = .returned V ∧ TopT G w w' V l) ∧ Below w.heap.size w w'

theorem TypeRow.nog {G : Nat → Prop} {w w' : World} {A : Option Addr} {c : Nat} {l : List TypeX} (h : TypeRow w (Nog G w) A c l) (hb : Below w.heap.size w w') : TypeRow w' (Nog G w') A c l :=
  h.frame (fun _ h => ⟨Nat.lt_of_lt_of_le h.1 hb.size, h.2⟩) fun b o h => hb.cell (p := ⟨b, o, none⟩) h.1
theorem TypeRow.nogX {G G' : Nat → Prop} {w w' : World} {A : Option Addr} {c : Nat} {l : List TypeX} (h : TypeRow w (Nog G w) A c l) (hb : Below w.heap.size w w') (hG : ∀ b, b < w.heap.size → G' b → G b) : TypeRow w' (Nog G' w') A c l :=
  h.frame (fun _ h => ⟨Nat.lt_of_lt_of_le h.1 hb.size, fun h' => h.2 (hG _ h.1 h')⟩) fun b o h => hb.cell (p := ⟨b, o, none⟩) h.1

set_option maxRecDepth 100000 in
set_option maxHeartbeats 2000000 in
theorem copyT_step (N : Nat) (ih : CopiesT N) : CopyT (N + 1) := by
  intro G x v w hG hn hN hv
  obtain ⟨A, c, rfl, hx⟩ := hv
  have hbb : Below w.heap.size w ((w.alloc (.cells #[.int .i64 x.kind_, .string x.name_, .slice A x.args_.length c] 35)).alloc (.cells zeroT 35)) := ((Below.refl _ _).alloc (Nat.le_refl _) _).alloc (by simp) _
  obtain ⟨W, hW⟩ : ∃ W, W = (w.alloc (.cells #[.int .i64 x.kind_, .string x.name_, .slice A x.args_.length c] 35)).alloc (.cells zeroT 35) := ⟨_, rfl⟩
  have hs : W.heap.size = w.heap.size + 2 := by rw [hW]; simp
  have hx1 : Whole W w.heap.size 35 #[.int .i64 x.kind_, .string x.name_, .slice A x.args_.length c] := by rw [hW]; exact (Whole.new w _ _).below ((Below.refl (w.heap.size + 1) _).alloc (by simp) _) (by omega)
  have hx2 : Whole W (w.heap.size + 1) 35 zeroT := by
    have h := Whole.new (w.alloc (.cells #[.int .i64 x.kind_, .string x.name_, .slice A x.args_.length c] 35)) 35 zeroT
    rw [World.size_alloc] at h; rw [hW]; exact h
  rw [← hW] at hbb
  have hr : TypeRow W (Nog (fun b => G b ∨ b = w.heap.size + 1) W) A c x.args_ := hx.nogX hbb fun b hb h => h.elim id (fun e => by omega)
  have hG' : ∀ b, (G b ∨ b = w.heap.size + 1) → b < W.heap.size := fun b h => h.elim (fun h => by have := hG b h; omega) (fun e => by omega)
  have hc := ih (fun b => G b ∨ b = w.heap.size + 1) x.args_ A c W.drew hG' (by rw [TypeX.size_eq] at hn; omega) (by omega) (hr.frame (fun _ h => h) fun _ _ _ => rfl)
  have HC := Lib.hid hc
  have HW := Lib.hid hW.symm
  have HS := Lib.hid hs
  have HX1 := Lib.hid hx1
  have HX2 := Lib.hid hx2
  have HB := Lib.hid hbb
  clear hc hW hs hx1 hx2 hbb hr hx
  go_enter Try.func155, Try.ntmps155
  go_upto_region 1 with (fail)
  rw [HW.out]
  obtain ⟨p0, p1, p2⟩ := cells3 HX1.out
  obtain ⟨r0, r1, r2⟩ := cells3 HX2.out
  have rf0 := HX2.out.frozen 0
  have rf1 := HX2.out.frozen 1
  have rf2 := HX2.out.frozen 2
  have hlt := HX2.out.lt
  have HX2e := fun (w2 : World) (h : Below W.heap.size W w2) => HX2.out.below h HX2.out.lt
  have HX1e := fun (w2 : World) (h : Below W.heap.size W w2) => HX1.out.below h HX1.out.lt
  have H2E := Lib.hid HX2e
  have H1E := Lib.hid HX1e
  clear HX2e HX1e
  go_region_held3 (fun w' => w'.cell? ⟨w.heap.size, 0, none⟩ = some (.int .i64 x.kind_) ∧ w'.cell? ⟨w.heap.size, 1, none⟩ = some (.string x.name_) ∧ w'.cell? ⟨w.heap.size, 2, none⟩ = some (.slice A x.args_.length c))
    (first
      | go_keep
      | exact cells3 (H1E.out _ hb2')
      | exact HSS _ _ _)
    (first
      | (go_at_call 159
         refine HC.out.mono ?_
         rintro e w2 ⟨⟨V, rfl, ht⟩, hb2⟩
         have hb2' : Below W.heap.size W w2 := (Below.refl _ W).drew.trans hb2
         obtain ⟨A2, c2, rfl⟩ := ht.shape
         have hx2 := H2E.out w2 hb2'
         have hbw := HB.out.trans (hb2'.mono HB.out.size)
         have r0 : w2.cell? ⟨w.heap.size + 1, 0, none⟩ = some (.int .i64 0) := by rw [hx2.cell]; rfl
         have r1 : w2.cell? ⟨w.heap.size + 1, 1, none⟩ = some (.string ⟨#[]⟩) := by rw [hx2.cell]; rfl
         have r2 : w2.cell? ⟨w.heap.size + 1, 2, none⟩ = some (.slice none 0 0) := by rw [hx2.cell]; rfl
         have rf0 := hx2.frozen 0
         have rf1 := hx2.frozen 1
         have rf2 := hx2.frozen 2
         have hlt := hx2.lt
         have HT := Lib.hid ht
         have HXX := Lib.hid hx2
         clear ht hx2 hb2))
  obtain ⟨e0, e1, e2, hbut, hb4, -⟩ := tyEndX (k := x.kind_) (s := x.name_) (A := A2) (n := x.args_.length) (cc := c2) HXX.out (by omega) hbw _ rfl
  have ht4 := ((HT.out.butX (HT.out.ne (by have := HS.out; show w.heap.size + 1 < W.heap.size; omega)) (.inr rfl) hbut).less (G := G) fun b h => .inl h).wide (w := w) (by have := HS.out; show w.heap.size ≤ W.heap.size; omega)
  have HT4 := Lib.hid ht4
  have HB4 := Lib.hid hb4
  clear hbut ht4 hb4
  go_wp2
  exact bodyPost_ret (v := .agg #[.int .i64 x.kind_, .string x.name_, .slice A2 x.args_.length c2]) (by simp [results, Try.results155, go_sem, e0, e1, e2]) rfl ⟨⟨_, rfl, HT4.out⟩, HB4.out⟩

set_option maxRecDepth 100000 in
set_option maxHeartbeats 4000000 in
theorem copiesT_step (N : Nat) (ih : CopyT N) : CopiesT N := by
  intro G l A c w hG hn hN hA
  obtain ⟨i0, hi, hz0, hz1, hz2⟩ := info_parts infoTy
  have hcap := hA.cap
  have hll := sizeL_length l
  have hb0 : Below w.heap.size w (w.alloc (.cells #[] 35)) := (Below.refl _ _).alloc (Nat.le_refl _) _
  have hown := World.ownsRow_made (base := w.heap.size) (e := 35) (size := 3) w #[] 0 (Nat.le_refl _) (by decide) rfl
  have HA := Lib.hid hA
  have HN := Lib.hid hn
  have HB := Lib.hid hb0
  have HO := Lib.hid hown
  clear hA hn hb0 hown
  go_enter Try.func159, Try.ntmps159
  go_wp2
  go_loopw [3, 4] (fun ov iv wr => ∃ (k : Nat), k ≤ l.length ∧ iv = .int .i64 k ∧ TopT G w wr ov (l.take k) ∧ Below w.heap.size w wr) (fun _ iv _ => l.length - (Go.RowKit.intOf iv).toNat)
  case atStart => exact ⟨0, Nat.zero_le _, rfl, ⟨[], HO.out, rfl⟩, HB.out⟩
  case round =>
    obtain ⟨k, hk, rfl, ht, hb⟩ := hrel
    obtain ⟨A1, c1, rfl⟩ := ht.shape
    by_cases hlt : k < l.length
    · have hG1 : ∀ b, (G b ∨ (Value.slice A1 (l.take k).length c1).ownBlock = some b) → b < wr.heap.size := fun b h => by
        have := hb.size
        rcases h with h | h
        · have := hG b h; omega
        · obtain ⟨us, ho, _⟩ := ht
          exact (ho.lt b h).2
      have hrow : TypeRow wr (Nog (fun b => G b ∨ (Value.slice A1 (l.take k).length c1).ownBlock = some b) wr) A c l := HA.out.nogX hb fun b hb' h => h.elim id fun e => by
        obtain ⟨us, ho, _⟩ := ht
        have := (ho.lt b e).1; omega
      obtain ⟨b, o, A2, c2, rfl, hP, p0, p1, p2, h2⟩ := hrow.at_ hlt
      have hsx : l[k].size ≤ N := by have := TypeX.sizeL_at l k hlt; have := HN.out; omega
      have hlen : (l.take k).length = k := by rw [List.length_take]; omega
      have hc := ih (fun b => G b ∨ (Value.slice A1 (l.take k).length c1).ownBlock = some b) l[k] (.agg #[.int .i64 l[k].kind_, .string l[k].name_, .slice A2 l[k].args_.length c2]) wr hG1 hsx hN ⟨_, _, rfl, h2⟩
      rw [hlen] at ht hc ⊢
      have HC := Lib.hid hc
      have HT := Lib.hid ht
      have HL := Lib.hid hlen
      clear hc ht hlen h2 hrow hG1
      go_wp2_with fail
      refine HC.out.mono ?_
      rintro e w2 ⟨⟨V2, rfl, ht2⟩, hb2⟩
      obtain ⟨A3, c3, rfl⟩ := ht2.shape
      obtain ⟨A3', c3', e3, hr3⟩ := ht2.row (fun b h => by
        rcases h with h | h
        · have := hG b h; have := hb.size; omega
        · obtain ⟨us, ho, _⟩ := HT.out
          exact (ho.lt b h).2)
      injection e3 with e3 _ e4
      subst e3 e4
      obtain ⟨us, ho, he⟩ := HT.out.below hb2
      rw [HL.out] at ho
      have hbw := hb.trans (hb2.mono hb.size)
      have HO2 := Lib.hid (ho.alloc (.cells #[.int .i64 l[k].kind_, .string l[k].name_, .slice A3 l[k].args_.length c3] 35))
      have HE := Lib.hid he
      have HR3 := Lib.hid hr3
      have HOW := Lib.hid ho
      have hk3 : k ≤ 1000000 := by have := HN.out; omega
      clear he hr3 ht2 hb2 p0 p1 p2 ho
      have hcell := fun (j : Nat) (u : Value) => (fun (h : [.int .i64 l[k].kind_, .string l[k].name_, .slice A3 l[k].args_.length c3][j]? = some u) => (by
        match j, h with
        | 0, h => simp at h; subst h; simp [Addr.add]
        | 1, h => simp at h; subst h; simp [Addr.add]
        | 2, h => simp at h; subst h; simp [Addr.add] : (w2.alloc (.cells #[.int .i64 l[k].kind_, .string l[k].name_, .slice A3 l[k].args_.length c3] 35)).cell? ((⟨w2.heap.size, 0, none⟩ : Addr).add j) = some u))
      have HCE := Lib.hid hcell
      clear hcell
      go_wp2_with (at_builtin; refine wpList_append_any rfl (.tmp 12) (.tmp 18) 33 rfl w.heap.size 35 i0 (.agg #[.int .i64 0, .string ByteArray.empty, .slice none 0 0]) 3 48 Try.underlying33 hi hz0 hz1 hz2 rfl (by decide) (.slice A1 k c1) k us rfl HO2.out (some ⟨w2.heap.size, 0, none⟩) 1 1 [.int .i64 l[k].kind_, .string l[k].name_, .slice A3 l[k].args_.length c3] rfl rfl (.inr ⟨_, rfl, HCE.out⟩) (by simp [Value.oneCell']) (by unfold maxLen; omega) (by omega) (by have := hbw.size; simp; omega) (w2.heap.size + 1) (by simp) ?_)
      intro V w3 hown3 hgrow3 hat3
      have hz3 := hgrow3.size
      simp only [World.size_alloc] at hz3
      have hbelow : Below w.heap.size w w3 := (hbw.alloc hbw.size (.cells #[.int .i64 l[k].kind_, .string l[k].name_, .slice A3 l[k].args_.length c3] 35)).grown hgrow3 (by have := hbw.size; simp; omega) (fun j hj => by have := (HOW.out.lt j hj).1; omega)
      have hsame : ∀ b, b < w2.heap.size → (Value.slice A1 k c1).ownBlock ≠ some b → w3.heap[b]? = w2.heap[b]? := fun b hb' hne => (hgrow3.block b (by simp; omega) (fun e => hne e.symm)).trans (Below.heap_alloc _ _ _ hb')
      have hnew : ∀ b, b < w2.heap.size → (Value.slice A1 k c1).ownBlock ≠ some b → V.ownBlock ≠ some b := fun b hb' hne e => by
        rcases hat3 with h | h
        · exact hne (h ▸ e)
        · rw [h] at e; injection e with e; omega
      have hend : TopT G w w3 V (l.take (k + 1)) := by
        refine ⟨us ++ [.int .i64 l[k].kind_, .string l[k].name_, .slice A3 l[k].args_.length c3], ?_, ?_⟩
        · rw [show (l.take (k + 1)).length = k + 1 by rw [List.length_take]; omega]; exact hown3
        · rw [List.take_succ_eq_append_getElem hlt]
          refine ElemsT.append (HE.out.frame (fun b h => ⟨⟨by have := h.1.1; omega, h.1.2⟩, hnew b h.1.1 h.2⟩) fun b o h => World.cell?_of_block (a := ⟨b, o, none⟩) (hsame b h.1.1 h.2)) ⟨A3, c3, [], rfl, ?_, rfl⟩
          exact HR3.out.frame (fun b h => ⟨⟨by have := h.1; omega, fun hg => h.2 (.inl hg)⟩, hnew b h.1 (fun e => h.2 (.inr e))⟩) fun b o h => World.cell?_of_block (a := ⟨b, o, none⟩) (hsame b h.1 (fun e => h.2 (.inr e)))
      have HEND := Lib.hid hend
      clear hend hown3 hgrow3 hat3 hsame hnew hz3
      go_wp2
      go_roundw
      case rel => exact ⟨k + 1, by omega, by go_num, HEND.out, hbelow⟩
      case measure => simp [Go.RowKit.intOf]; omega
    · have hkl : k = l.length := by omega
      subst hkl
      rw [List.take_length] at ht ⊢
      have HT := Lib.hid ht
      clear ht
      go_wp2
      go_ret
      exact ⟨⟨_, rfl, HT.out⟩, hb⟩
theorem copyTAll : ∀ N, CopyT N
  | 0 => fun G x v w _ hn => by rw [TypeX.size_eq] at hn; omega
  | N + 1 => copyT_step N (copiesT_step N (copyTAll N))
theorem copyT (G : Nat → Prop) (x : TypeX) (v : Value) (w : World) (hG : ∀ b, G b → b < w.heap.size) (hn : x.size ≤ 1000000) (hv : TypeAt w (Nog G w) x v) :
    Calls Try.prog 155 #[v] w fun e w' => MadeT G x w e w' ∧ Below w.heap.size w w' := copyTAll 1000000 G x v w hG hn (Nat.le_refl _) hv
end Go.Proofs.Ytbcfeoobhemdcaa
namespace Go.Proofs.Ytbcfeoobhemdcaa
open Go.RowKit

/-- The keywords. -/
def keywords : List ByteArray := [⟨#[105, 110, 116]⟩, ⟨#[98, 111, 111, 108]⟩, ⟨#[97, 115, 115, 111, 99]⟩, ⟨#[100, 121, 110]⟩, ⟨#[105, 102]⟩, ⟨#[108, 101, 116]⟩, ⟨#[99, 97, 115, 101]⟩, ⟨#[110, 101, 119]⟩, ⟨#[109, 101, 116, 104, 111, 100]⟩, ⟨#[112, 97, 99, 107]⟩, ⟨#[116, 114, 117, 101]⟩, ⟨#[102, 97, 108, 115, 101]⟩]
/-- A keyword. -/
def isKey (s : ByteArray) : Bool := has keywords s

set_option maxRecDepth 100000 in
set_option maxHeartbeats 400000 in
theorem specReserved (s : ByteArray) (w : World) : Calls Try.prog 148 #[.string s] w fun e w' => e = .returned (.bool (isKey s)) ∧ Below w.heap.size w w' := by
  have hal : Below w.heap.size w (w.alloc (.cells (keywords.map Value.string).toArray 9)) := (Below.refl _ _).alloc (Nat.le_refl _) _
  have HAL := Lib.hid hal
  clear hal
  go_enter Try.func148, Try.ntmps148
  go_wp2_with fail
  refine (specHas (some ⟨w.heap.size, 0, none⟩) 12 keywords s _ (Whole.new w 9 (keywords.map Value.string).toArray).strs (by decide)).mono ?_
  rintro e w1 ⟨rfl, rfl⟩
  go_wp2
  go_ret
  exact ⟨rfl, HAL.out⟩

theorem zeroBool (w : World) : (zeroValue 4).run Try.prog w = .ok (.bool false) w := by kernel_rfl
set_option maxRecDepth 100000 in
set_option maxHeartbeats 1000000 in
theorem implReserved (s : ByteArray) (w : World) (hs : s.size ≤ 9223372036854775807) : Calls Try.prog 147 #[.string s] w fun e w' => e = .returned (.bool (isKey s)) ∧ Below w.heap.size w w' := by
  have hmm := @run_makeMap Try.prog
  have h0 := Seen.made (P := Try.prog) (k := 9) (e := 4) w
  have hb0 : Below w.heap.size w (w.alloc (.map #[] 0)) := (Below.refl _ _).alloc (Nat.le_refl _) _
  have H0 := Lib.hid h0
  have HB0 := Lib.hid hb0
  clear h0 hb0
  obtain ⟨w1, e1, h1, g1⟩ := H0.out.store Try.underlying128 Try.underlying9 Try.underlying4 (by decide) ⟨#[105, 110, 116]⟩ (by decide)
  have H1 := Lib.hid h1
  have HB1 := Lib.hid (HB0.out.grown g1 HB0.out.size (fun j hj => by cases hj; exact Nat.le_refl _))
  clear h1 g1
  obtain ⟨w2, e2, h2, g2⟩ := H1.out.store Try.underlying128 Try.underlying9 Try.underlying4 (by decide) ⟨#[98, 111, 111, 108]⟩ (by decide)
  have H2 := Lib.hid h2
  have HB2 := Lib.hid (HB1.out.grown g2 HB1.out.size (fun j hj => by cases hj; exact Nat.le_refl _))
  clear h2 g2
  obtain ⟨w3, e3, h3, g3⟩ := H2.out.store Try.underlying128 Try.underlying9 Try.underlying4 (by decide) ⟨#[97, 115, 115, 111, 99]⟩ (by decide)
  have H3 := Lib.hid h3
  have HB3 := Lib.hid (HB2.out.grown g3 HB2.out.size (fun j hj => by cases hj; exact Nat.le_refl _))
  clear h3 g3
  obtain ⟨w4, e4, h4, g4⟩ := H3.out.store Try.underlying128 Try.underlying9 Try.underlying4 (by decide) ⟨#[100, 121, 110]⟩ (by decide)
  have H4 := Lib.hid h4
  have HB4 := Lib.hid (HB3.out.grown g4 HB3.out.size (fun j hj => by cases hj; exact Nat.le_refl _))
  clear h4 g4
  obtain ⟨w5, e5, h5, g5⟩ := H4.out.store Try.underlying128 Try.underlying9 Try.underlying4 (by decide) ⟨#[105, 102]⟩ (by decide)
  have H5 := Lib.hid h5
  have HB5 := Lib.hid (HB4.out.grown g5 HB4.out.size (fun j hj => by cases hj; exact Nat.le_refl _))
  clear h5 g5
  obtain ⟨w6, e6, h6, g6⟩ := H5.out.store Try.underlying128 Try.underlying9 Try.underlying4 (by decide) ⟨#[108, 101, 116]⟩ (by decide)
  have H6 := Lib.hid h6
  have HB6 := Lib.hid (HB5.out.grown g6 HB5.out.size (fun j hj => by cases hj; exact Nat.le_refl _))
  clear h6 g6
  obtain ⟨w7, e7, h7, g7⟩ := H6.out.store Try.underlying128 Try.underlying9 Try.underlying4 (by decide) ⟨#[99, 97, 115, 101]⟩ (by decide)
  have H7 := Lib.hid h7
  have HB7 := Lib.hid (HB6.out.grown g7 HB6.out.size (fun j hj => by cases hj; exact Nat.le_refl _))
  clear h7 g7
  obtain ⟨w8, e8, h8, g8⟩ := H7.out.store Try.underlying128 Try.underlying9 Try.underlying4 (by decide) ⟨#[110, 101, 119]⟩ (by decide)
  have H8 := Lib.hid h8
  have HB8 := Lib.hid (HB7.out.grown g8 HB7.out.size (fun j hj => by cases hj; exact Nat.le_refl _))
  clear h8 g8
  obtain ⟨w9, e9, h9, g9⟩ := H8.out.store Try.underlying128 Try.underlying9 Try.underlying4 (by decide) ⟨#[109, 101, 116, 104, 111, 100]⟩ (by decide)
  have H9 := Lib.hid h9
  have HB9 := Lib.hid (HB8.out.grown g9 HB8.out.size (fun j hj => by cases hj; exact Nat.le_refl _))
  clear h9 g9
  obtain ⟨w10, e10, h10, g10⟩ := H9.out.store Try.underlying128 Try.underlying9 Try.underlying4 (by decide) ⟨#[112, 97, 99, 107]⟩ (by decide)
  have H10 := Lib.hid h10
  have HB10 := Lib.hid (HB9.out.grown g10 HB9.out.size (fun j hj => by cases hj; exact Nat.le_refl _))
  clear h10 g10
  obtain ⟨w11, e11, h11, g11⟩ := H10.out.store Try.underlying128 Try.underlying9 Try.underlying4 (by decide) ⟨#[116, 114, 117, 101]⟩ (by decide)
  have H11 := Lib.hid h11
  have HB11 := Lib.hid (HB10.out.grown g11 HB10.out.size (fun j hj => by cases hj; exact Nat.le_refl _))
  clear h11 g11
  obtain ⟨w12, e12, h12, g12⟩ := H11.out.store Try.underlying128 Try.underlying9 Try.underlying4 (by decide) ⟨#[102, 97, 108, 115, 101]⟩ (by decide)
  have H12 := Lib.hid h12
  have HB12 := Lib.hid (HB11.out.grown g12 HB11.out.size (fun j hj => by cases hj; exact Nat.le_refl _))
  clear h12 g12
  have hlk := H12.out.look Try.underlying128 Try.underlying9 Try.underlying4 (zeroBool _) s hs
  go_enter Try.func147, Try.ntmps147
  go_wp2
  go_ret
  exact ⟨rfl, HB12.out⟩
end Go.Proofs.Ytbcfeoobhemdcaa
namespace Go.Proofs.Ytbcfeoobhemdcaa
open Go.RowKit

def letterR (r : Int) : Bool := decide (97 ≤ r) && decide (r ≤ 122)
def digitR (r : Int) : Bool := decide (48 ≤ r) && decide (r ≤ 57)

set_option maxRecDepth 100000 in
theorem letterIs (r : Int) (w : World) : Calls Try.prog 111 #[.int .i32 r] w fun e w' => e = .returned (.bool (letterR r)) ∧ w = w' := by
  by_cases h1 : 97 ≤ r
  all_goals (
    go_enter Try.func111, Try.ntmps111
    go_wp2
    go_ret
    refine ⟨congrArg (fun b => Ending.returned (.bool b)) ?_, rfl⟩
    (simp [letterR, h1]; try omega))
set_option maxRecDepth 100000 in
theorem digitIs (r : Int) (w : World) : Calls Try.prog 112 #[.int .i32 r] w fun e w' => e = .returned (.bool (digitR r)) ∧ w = w' := by
  by_cases h1 : 48 ≤ r
  all_goals (
    go_enter Try.func112, Try.ntmps112
    go_wp2
    go_ret
    refine ⟨congrArg (fun b => Ending.returned (.bool b)) ?_, rfl⟩
    (simp [digitR, h1]; try omega))
end Go.Proofs.Ytbcfeoobhemdcaa
namespace Go.Proofs.Ytbcfeoobhemdcaa
open Go.RowKit

/-- A byte that may stand at place i of a name. -/
def goodAt (i : Nat) (c : UInt8) : Bool := letterR c.toNat || (i != 0 && digitR c.toNat)
def goods (s : ByteArray) (k : Nat) : Bool := (List.range k).all fun i => goodAt i (s.data.toList.getD i 0)
/-- A name. -/
def okName (s : ByteArray) : Bool := decide (1 ≤ s.size ∧ s.size ≤ 8) && (!isKey s && goods s s.size)
theorem goods_succ {s : ByteArray} {k : Nat} (h : k < s.size) : goods s (k + 1) = (goods s k && goodAt k s[k]) := by
  unfold goods
  rw [List.range_succ, List.all_append]
  simp
  congr 2
  have : s.data[k]? = some s[k] := by simp [h]; rfl
  rw [this]
  rfl
theorem goods_bad {s : ByteArray} {k : Nat} (h : k < s.size) (hb : goodAt k s[k] = false) : okName s = false := by
  have h1 := goods_succ h
  rw [hb, Bool.and_false] at h1
  have : goods s s.size = false := by
    unfold goods at h1 ⊢
    rw [List.all_eq_false] at h1 ⊢
    obtain ⟨x, hx, hf⟩ := h1
    exact ⟨x, by simp at hx ⊢; omega, hf⟩
  rw [okName, this, Bool.and_false, Bool.and_false]
theorem name_size {s : ByteArray} (h : ¬ (1 ≤ s.size ∧ s.size ≤ 8)) : okName s = false := by rw [okName, decide_eq_false h, Bool.false_and]
theorem name_key {s : ByteArray} (h : isKey s = true) : okName s = false := by rw [okName, h]; simp
theorem name_ok {s : ByteArray} (h : 1 ≤ s.size ∧ s.size ≤ 8) (hg : goods s s.size = true) : okName s = !isKey s := by rw [okName, decide_eq_true h, hg]; simp

theorem withinN (x lo hi : Int) (w : World) : Calls Try.prog 143 #[.int .i64 x, .int .i64 lo, .int .i64 hi] w fun e w' => e = .returned (.bool (decide (lo ≤ x ∧ x ≤ hi))) ∧ w = w' := by
  by_cases h1 : lo ≤ x
  · go_enter Try.func143, Try.ntmps143
    go_wp2
    go_ret
    refine ⟨congrArg (fun b => Ending.returned (.bool b)) ?_, rfl⟩
    rw [Bool.eq_iff_iff]
    simp [h1]
  · go_enter Try.func143, Try.ntmps143
    go_wp2
    go_ret
    refine ⟨congrArg (fun b => Ending.returned (.bool b)) ?_, rfl⟩
    rw [Bool.eq_iff_iff]
    simp
    omega

set_option maxRecDepth 100000 in
set_option maxHeartbeats 1000000 in
theorem specName (s : ByteArray) (w : World) (hs : s.size ≤ 9223372036854775807) : Calls Try.prog 125 #[.string s] w fun e w' => e = .returned (.bool (okName s)) ∧ Below w.heap.size w w' := by
  by_cases hsz : 1 ≤ s.size ∧ s.size ≤ 8
  · have hd : decide ((1 : Int) ≤ s.size ∧ (s.size : Int) ≤ 8) = true := by simp; omega
    go_enter Try.func125, Try.ntmps125
    go_wp2_with fail
    refine (withinN _ _ _ _).mono ?_
    rintro e w1 ⟨rfl, rfl⟩
    rw [hd]
    clear hd
    go_wp2_with fail
    refine (specReserved s _).mono ?_
    rintro e w1 ⟨rfl, hb1⟩
    cases hk : isKey s with
    | true =>
      have hno := name_key hk
      have HN := Lib.hid hno
      clear hk hno
      go_wp2
      go_ret
      exact ⟨congrArg (fun b => Ending.returned (.bool b)) HN.out.symm, hb1⟩
    | false =>
      have hyes := fun h => @name_ok s hsz h
      rw [hk] at hyes
      have HY := Lib.hid hyes
      have HB := Lib.hid hb1
      obtain ⟨hsz1, hsz2⟩ := hsz
      clear hyes hk hb1
      go_wp2
      go_loopw [3] (fun iv wr => ∃ k : Nat, k ≤ s.size ∧ iv = .int .i64 k ∧ goods s k = true ∧ wr = w1) (fun iv _ => s.size - (Go.RowKit.intOf iv).toNat)
      case atStart => exact ⟨0, Nat.zero_le _, rfl, rfl, rfl⟩
      case round =>
        obtain ⟨k, hk, rfl, hg, rfl⟩ := hrel
        by_cases hlt : k < s.size
        · have hst := goods_succ hlt
          rw [hg, Bool.true_and] at hst
          have hbad := @goods_bad s k hlt
          have HS := Lib.hid hst
          have HX := Lib.hid hbad
          clear hst hbad hg
          by_cases h97 : 97 ≤ s[k].toNat
          · by_cases h122 : s[k].toNat ≤ 122
            · have hg : goodAt k s[k] = true := by unfold goodAt letterR; simp; omega
              have HG := Lib.hid (HS.out.trans hg)
              clear hg
              go_wp2
              go_roundw
              case rel => exact ⟨k + 1, by omega, by go_num, HG.out, trivial⟩
              case measure => simp [Go.RowKit.intOf]; omega
            · have hg : goodAt k s[k] = false := by unfold goodAt letterR digitR; simp; omega
              have HG := Lib.hid (HX.out hg)
              clear hg
              have q1 : decide ((s[k].toNat : Int) ≤ 122) = false := by simp; omega
              by_cases h0 : k = 0
              · subst h0
                go_wp2
                go_ret
                exact ⟨congrArg (fun b => Ending.returned (.bool b)) HG.out.symm, HB.out⟩
              · have q0 : ((k : Int) == 0) = false := by simp; omega
                go_wp2
                go_ret
                exact ⟨congrArg (fun b => Ending.returned (.bool b)) HG.out.symm, HB.out⟩
          · by_cases h0 : k = 0
            · subst h0
              have hg : goodAt 0 s[0] = false := by unfold goodAt letterR digitR; simp; omega
              have HG := Lib.hid (HX.out hg)
              clear hg
              go_wp2
              go_ret
              exact ⟨congrArg (fun b => Ending.returned (.bool b)) HG.out.symm, HB.out⟩
            · have q0 : ((k : Int) == 0) = false := by simp; omega
              by_cases h48 : s[k].toNat < 48
              · have hg : goodAt k s[k] = false := by unfold goodAt letterR digitR; simp; omega
                have HG := Lib.hid (HX.out hg)
                clear hg
                go_wp2
                go_ret
                exact ⟨congrArg (fun b => Ending.returned (.bool b)) HG.out.symm, HB.out⟩
              · by_cases h57 : 57 < s[k].toNat
                · have hg : goodAt k s[k] = false := by unfold goodAt letterR digitR; simp; omega
                  have HG := Lib.hid (HX.out hg)
                  clear hg
                  go_wp2
                  go_ret
                  exact ⟨congrArg (fun b => Ending.returned (.bool b)) HG.out.symm, HB.out⟩
                · have hg : goodAt k s[k] = true := by unfold goodAt letterR digitR; simp; omega
                  have HG := Lib.hid (HS.out.trans hg)
                  clear hg
                  go_wp2
                  go_roundw
                  case rel => exact ⟨k + 1, by omega, by go_num, HG.out, trivial⟩
                  case measure => simp [Go.RowKit.intOf]; omega
        · have hkl : k = s.size := by omega
          subst hkl
          have hy := HY.out hg
          have HZ := Lib.hid hy
          clear hg hy
          go_wp2
          go_ret
          exact ⟨congrArg (fun b => Ending.returned (.bool b)) HZ.out.symm, HB.out⟩
  · have hno := name_size hsz
    have HN := Lib.hid hno
    have hd : decide ((1 : Int) ≤ s.size ∧ (s.size : Int) ≤ 8) = false := by simp; omega
    clear hno
    go_enter Try.func125, Try.ntmps125
    go_wp2_with fail
    refine (withinN _ _ _ _).mono ?_
    rintro e w1 ⟨rfl, rfl⟩
    rw [hd]
    go_wp2
    go_ret
    exact ⟨congrArg (fun b => Ending.returned (.bool b)) HN.out.symm, Below.refl _ _⟩
end Go.Proofs.Ytbcfeoobhemdcaa
namespace Go.Proofs.Ytbcfeoobhemdcaa
open Go.RowKit Go.Lib

set_option maxRecDepth 100000 in
set_option maxHeartbeats 2000000 in
theorem specLeft_step (N : Nat) (ih : ∀ (y : TypeX) (v : Value) (L : Nat) (w : World), DV.nodesL y.cells < N → L ≤ 4294967296 → TypeAt w (Und w.heap.size) y v → Calls Try.prog 78 #[v, .int .i64 L] w fun e w' => e = .returned (.int .i64 (leftV L y.size)) ∧ Below w.heap.size w w') :
    ∀ (x : TypeX) (v : Value) (L : Nat) (w : World), DV.nodesL x.cells ≤ N → L ≤ 4294967296 → TypeAt w (Und w.heap.size) x v → Calls Try.prog 78 #[v, .int .i64 L] w fun e w' => e = .returned (.int .i64 (leftV L x.size)) ∧ Below w.heap.size w w' := by
  intro x v L w hn hL hv
  obtain ⟨A2, c2, rfl, h2⟩ := hv
  have hcap := h2.cap
  rw [TypeX.nodes_eq] at hn
  have hb0 : Below w.heap.size w (w.alloc (.cells #[.int .i64 x.kind_, .string x.name_, .slice A2 x.args_.length c2] 35)) := (Below.refl _ _).alloc (Nat.le_refl _) _
  have hx0 := Whole.new w 35 #[.int .i64 x.kind_, .string x.name_, .slice A2 x.args_.length c2]
  have hr0 := h2.grow hb0
  have hse := TypeX.size_eq x
  have HSE := Lib.hid hse
  have HX0 := Lib.hid hx0
  have HR0 := Lib.hid hr0
  have HN := Lib.hid hn
  clear h2 hn hx0 hr0 hse
  go_enter Try.func78, Try.ntmps78
  go_wp2
  go_loopw [1, 5] (fun qv iv wr => ∃ (k : Nat) (q : Int), k ≤ x.args_.length ∧ iv = .int .i64 k ∧ qv = .int .i64 q ∧ ((q = -1 ∧ L < x.size) ∨ ∃ n : Nat, q = n ∧ n + 1 + TypeX.sizeL (x.args_.take k) = L) ∧ Whole wr w.heap.size 35 #[.int .i64 x.kind_, .string x.name_, .slice A2 x.args_.length c2] ∧ TypeRow wr (Und wr.heap.size) A2 c2 x.args_ ∧ Below w.heap.size w wr) (fun _ iv _ => x.args_.length - (Go.RowKit.intOf iv).toNat)
  case atStart =>
    refine ⟨0, (L : Int) - 1, Nat.zero_le _, rfl, rfl, ?_, HX0.out, HR0.out, hb0⟩
    by_cases h0 : L = 0
    · exact .inl ⟨by omega, by have := HSE.out; omega⟩
    · exact .inr ⟨L - 1, by omega, by simp [TypeX.sizeL]; omega⟩
  case round =>
    clear HX0 HR0 hb0
    obtain ⟨k, q, hk, rfl, rfl, hq, hx, hr, hb⟩ := hrel
    have c2f : wr.cell? ⟨w.heap.size, 2, none⟩ = some (.slice A2 x.args_.length c2) := by rw [hx.cell]; rfl
    have hxlt := hx.lt
    rcases hq with ⟨rfl, hno⟩ | ⟨n, rfl, hq⟩
    · have hz : leftV L x.size = -1 := leftV_no hno
      have HZ := Lib.hid hz
      clear hx hr hz
      by_cases hlt : k < x.args_.length
      · go_wp2
        go_ret
        exact ⟨ret_int HZ.out.symm, hb⟩
      · go_wp2
        go_ret
        exact ⟨ret_int HZ.out.symm, hb⟩
    · by_cases hlt : k < x.args_.length
      · obtain ⟨b, o, A2', c2', hA, hP, q0, q1, q2, k2⟩ := hr.at_ hlt
        subst hA
        have hnx : DV.nodesL x.args_[k].cells < N := by
          have h := nodesVE_at (TypeX.rows x.args_) k (by rw [TypeX.rows_length]; exact hlt)
          rw [TypeX.rows_at x.args_ k hlt] at h
          have := HN.out
          omega
        have hst := TypeX.sizeL_take x.args_ k hlt
        have hle := TypeX.sizeL_le x.args_ (k + 1)
        have hrel2 : (leftV n x.args_[k].size = -1 ∧ L < x.size) ∨ ∃ m : Nat, leftV n x.args_[k].size = m ∧ m + 1 + TypeX.sizeL (x.args_.take (k + 1)) = L := by
          by_cases h : x.args_[k].size ≤ n
          · exact .inr ⟨n - x.args_[k].size, by rw [leftV_yes h]; omega, by omega⟩
          · exact .inl ⟨leftV_no (by omega), by have := HSE.out; omega⟩
        have hnL : n ≤ 4294967296 := by omega
        have HR2 := Lib.hid hrel2
        have HX := Lib.hid hx
        have HR := Lib.hid hr
        have HK := Lib.hid k2
        clear hx hr k2 hst hle hrel2 hq
        go_wp2_with fail
        refine (ih x.args_[k] _ n _ hnx hnL ⟨_, _, rfl, HK.out⟩).mono ?_
        rintro e w1 ⟨rfl, hb1⟩
        have hb2 := hb.trans (hb1.mono hb.size)
        have hx1 := HX.out.below hb1 HX.out.lt
        have hr1 := HR.out.grow hb1
        have HX1 := Lib.hid hx1
        have HR1 := Lib.hid hr1
        clear hx1 hr1 hb1
        go_wp2
        go_roundw
        case rel => exact ⟨k + 1, _, by omega, by go_num, rfl, HR2.out, HX1.out, HR1.out, hb2⟩
        case measure => simp [Go.RowKit.intOf]; omega
      · have hkl : k = x.args_.length := by omega
        subst hkl
        rw [List.take_length] at hq
        have hz : leftV L x.size = n := by have := HSE.out; rw [leftV_yes (by omega)]; omega
        have HZ := Lib.hid hz
        clear hx hr hz hq
        go_wp2
        go_ret
        exact ⟨ret_int HZ.out.symm, hb⟩
theorem specLeftAll : ∀ (N : Nat) (x : TypeX) (v : Value) (L : Nat) (w : World), DV.nodesL x.cells ≤ N → L ≤ 4294967296 → TypeAt w (Und w.heap.size) x v → Calls Try.prog 78 #[v, .int .i64 L] w fun e w' => e = .returned (.int .i64 (leftV L x.size)) ∧ Below w.heap.size w w'
  | 0 => specLeft_step 0 (fun _ _ _ _ h => absurd h (Nat.not_lt_zero _))
  | N + 1 => specLeft_step (N + 1) (fun y v L w h => specLeftAll N y v L w (Nat.le_of_lt_succ h))
theorem specLeft (x : TypeX) (v : Value) (L : Nat) (w : World) (hL : L ≤ 4294967296) (hv : TypeAt w (Und w.heap.size) x v) : Calls Try.prog 78 #[v, .int .i64 L] w fun e w' => e = .returned (.int .i64 (leftV L x.size)) ∧ Below w.heap.size w w' := specLeftAll _ x v L w (Nat.le_refl _) hL hv
end Go.Proofs.Ytbcfeoobhemdcaa
namespace Go.Proofs.Ytbcfeoobhemdcaa
open Go.RowKit Go.Lib

mutual
def TypeX.depth : TypeX → Nat
  | .mk _ _ l => TypeX.depthL l
def TypeX.depthL : List TypeX → Nat
  | [] => 0
  | x :: r => max (1 + x.depth) (TypeX.depthL r)
end
theorem TypeX.depth_eq (x : TypeX) : x.depth = TypeX.depthL x.args_ := by cases x with | mk a b c => rw [TypeX.depth]; rfl
theorem TypeX.depthL_take : ∀ (l : List TypeX) (j : Nat) (h : j < l.length), TypeX.depthL (l.take (j + 1)) = max (TypeX.depthL (l.take j)) (1 + l[j].depth)
  | x :: r, 0, _ => by simp [TypeX.depthL]
  | x :: r, j + 1, h => by
    have := TypeX.depthL_take r j (by simpa using h)
    rw [List.take_succ_cons, List.take_succ_cons, TypeX.depthL, TypeX.depthL, this]
    simp [Nat.max_assoc]
theorem TypeX.depthL_le : ∀ (l : List TypeX) (j : Nat), TypeX.depthL (l.take j) ≤ TypeX.depthL l
  | [], j => by simp
  | x :: r, 0 => by simp [TypeX.depthL]
  | x :: r, j + 1 => by
    have := TypeX.depthL_le r j
    rw [List.take_succ_cons, TypeX.depthL, TypeX.depthL]; omega

set_option maxRecDepth 100000 in
set_option maxHeartbeats 2000000 in
theorem specTyDepth_step (N : Nat) (ih : ∀ (y : TypeX) (v : Value) (w : World), DV.nodesL y.cells < N → TypeX.depth y ≤ 4294967296 → TypeAt w (Und w.heap.size) y v → Calls Try.prog 29 #[v] w fun e w' => e = .returned (.int .i64 (TypeX.depth y : Nat)) ∧ Below w.heap.size w w') :
    ∀ (x : TypeX) (v : Value) (w : World), DV.nodesL x.cells ≤ N → TypeX.depth x ≤ 4294967296 → TypeAt w (Und w.heap.size) x v → Calls Try.prog 29 #[v] w fun e w' => e = .returned (.int .i64 (TypeX.depth x : Nat)) ∧ Below w.heap.size w w' := by
  intro x v w hn hs0 hv
  obtain ⟨A2, c2, rfl, h2⟩ := hv
  have hcap := h2.cap
  rw [TypeX.nodes_eq] at hn
  have hb0 : Below w.heap.size w (w.alloc (.cells #[.int .i64 x.kind_, .string x.name_, .slice A2 x.args_.length c2] 35)) := (Below.refl _ _).alloc (Nat.le_refl _) _
  have hx0 := Whole.new w 35 #[.int .i64 x.kind_, .string x.name_, .slice A2 x.args_.length c2]
  have hr0 := h2.grow hb0
  have HX0 := Lib.hid hx0
  have HR0 := Lib.hid hr0
  have HN := Lib.hid hn
  have HS0 := Lib.hid hs0
  clear hs0
  clear h2 hn hx0 hr0
  go_enter Try.func29, Try.ntmps29
  go_wp2
  go_loopw [3, 4] (fun mv iv wr => ∃ k m : Nat, k ≤ x.args_.length ∧ iv = .int .i64 k ∧ m = TypeX.depthL (x.args_.take k) ∧ mv = .int .i64 m ∧ Whole wr w.heap.size 35 #[.int .i64 x.kind_, .string x.name_, .slice A2 x.args_.length c2] ∧ TypeRow wr (Und wr.heap.size) A2 c2 x.args_ ∧ Below w.heap.size w wr) (fun _ iv _ => x.args_.length - (Go.RowKit.intOf iv).toNat)
  case atStart => exact ⟨0, 0, Nat.zero_le _, rfl, by simp [TypeX.depthL], rfl, HX0.out, HR0.out, hb0⟩
  case round =>
    clear HX0 HR0 hb0
    obtain ⟨k, m, hk, rfl, hm, rfl, hx, hr, hb⟩ := hrel
    have c2f : wr.cell? ⟨w.heap.size, 2, none⟩ = some (.slice A2 x.args_.length c2) := by rw [hx.cell]; rfl
    have hxlt := hx.lt
    by_cases hlt : k < x.args_.length
    · obtain ⟨b, o, A2', c2', hA, hP, q0, q1, q2, k2⟩ := hr.at_ hlt
      subst hA
      have hnx : DV.nodesL x.args_[k].cells < N := by
        have h := nodesVE_at (TypeX.rows x.args_) k (by rw [TypeX.rows_length]; exact hlt)
        rw [TypeX.rows_at x.args_ k hlt] at h
        have := HN.out
        omega
      have hst := TypeX.depthL_take x.args_ k hlt
      have hle := TypeX.depthL_le x.args_ (k + 1)
      have hse := TypeX.depth_eq x
      have hs1 : x.args_[k].depth < 4294967296 ∧ m ≤ 4294967296 := by have := HS0.out; omega
      have hm2 : max m (1 + x.args_[k].depth) = TypeX.depthL (x.args_.take (k + 1)) := by rw [hst, hm]
      have hcast : (1 : Int) + (x.args_[k].depth : Nat) = ((1 + x.args_[k].depth : Nat) : Int) := by omega
      have HM := Lib.hid hm2
      have HC := Lib.hid hcast
      clear hst hle hse hm2 hm hcast
      have HX := Lib.hid hx
      have HR := Lib.hid hr
      have HK := Lib.hid k2
      clear hx hr k2
      go_wp2_with fail
      refine (ih x.args_[k] _ _ hnx (by omega) ⟨_, _, rfl, HK.out⟩).mono ?_
      rintro e w1 ⟨rfl, hb1⟩
      have hb2 := hb.trans (hb1.mono hb.size)
      have hx1 := HX.out.below hb1 HX.out.lt
      have hr1 := HR.out.grow hb1
      have HX1 := Lib.hid hx1
      have HR1 := Lib.hid hr1
      clear hx1 hr1 hb1
      go_wp2_with fail
      rw [HC.out]
      refine (maxOf m (1 + x.args_[k].depth) _).mono ?_
      rintro e w2 ⟨rfl, rfl⟩
      go_wp2
      go_roundw
      case rel => exact ⟨k + 1, max m (1 + x.args_[k].depth), by omega, by go_num, HM.out, rfl, HX1.out, HR1.out, hb2⟩
      case measure => simp [Go.RowKit.intOf]; omega
    · have hkl : k = x.args_.length := by omega
      subst hkl
      rw [List.take_length] at hm
      have c0f : wr.cell? ⟨w.heap.size, 0, none⟩ = some (.int .i64 x.kind_) := by rw [hx.cell]; rfl
      rw [← TypeX.depth_eq] at hm
      have HM := Lib.hid hm
      clear hm hx hr
      go_wp2
      go_ret
      exact ⟨ret_int (by rw [HM.out]), hb⟩
theorem specTyDepthAll : ∀ (N : Nat) (x : TypeX) (v : Value) (w : World), DV.nodesL x.cells ≤ N → TypeX.depth x ≤ 4294967296 → TypeAt w (Und w.heap.size) x v → Calls Try.prog 29 #[v] w fun e w' => e = .returned (.int .i64 (TypeX.depth x : Nat)) ∧ Below w.heap.size w w'
  | 0 => specTyDepth_step 0 (fun _ _ _ h => absurd h (Nat.not_lt_zero _))
  | N + 1 => specTyDepth_step (N + 1) (fun y v w h => specTyDepthAll N y v w (Nat.le_of_lt_succ h))
theorem specTyDepth (x : TypeX) (v : Value) (w : World) : TypeX.depth x ≤ 4294967296 → TypeAt w (Und w.heap.size) x v → Calls Try.prog 29 #[v] w fun e w' => e = .returned (.int .i64 (TypeX.depth x : Nat)) ∧ Below w.heap.size w w' := specTyDepthAll _ x v w (Nat.le_refl _)
end Go.Proofs.Ytbcfeoobhemdcaa
namespace Go.Proofs.Ytbcfeoobhemdcaa
open Go.RowKit

/-- A rune of an atom. -/
def okRune (r : Int) : Bool := (decide (97 ≤ r) && decide (r ≤ 122)) || (decide (48 ≤ r) && decide (r ≤ 57)) || (r == 39) || (r == 45) || (r == 43) || (r == 42) || (r == 60) || (r == 61) || (r == 46)
theorem okRune_iff (r : Int) : okRune r = true ↔ (97 ≤ r ∧ r ≤ 122) ∨ (48 ≤ r ∧ r ≤ 57) ∨ r = 39 ∨ r = 45 ∨ r = 43 ∨ r = 42 ∨ r = 60 ∨ r = 61 ∨ r = 46 := by
  simp only [okRune, Bool.or_eq_true, Bool.and_eq_true, decide_eq_true_eq, beq_iff_eq, or_assoc]
theorem okByte_iff (c : UInt8) : okByte c = true ↔ (97 ≤ c.toNat ∧ c.toNat ≤ 122) ∨ (48 ≤ c.toNat ∧ c.toNat ≤ 57) ∨ c.toNat = 39 ∨ c.toNat = 45 ∨ c.toNat = 43 ∨ c.toNat = 42 ∨ c.toNat = 60 ∨ c.toNat = 61 ∨ c.toNat = 46 := by
  simp only [okByte, Bool.or_eq_true, Bool.and_eq_true, decide_eq_true_eq, beq_iff_eq, or_assoc]
theorem okRune_byte (c : UInt8) : okRune (c.toNat : Int) = okByte c := by
  rw [Bool.eq_iff_iff, okRune_iff, okByte_iff]; omega
theorem okRune_high {r : Int} (h : 128 ≤ r) : okRune r = false := by
  rw [← Bool.not_eq_true, okRune_iff]; omega
theorem decode_ok {s : ByteArray} {k : Nat} (h : k < s.size) (hc : okByte s[k] = true) : Utf8.decode s k = (s[k].toNat, 1) :=
  decode_ascii s k h (by rw [okByte_iff] at hc; omega)
theorem decode_bad {s : ByteArray} {k : Nat} (h : k < s.size) (hc : okByte s[k] = false) : okRune ((Utf8.decode s k).1 : Int) = false := by
  by_cases ha : s[k].toNat < 128
  · rw [decode_ascii s k h ha, okRune_byte]; exact hc
  · exact okRune_high (by have := (decode_high s k h (by omega)).1; omega)

set_option maxRecDepth 100000 in
set_option maxHeartbeats 1000000 in
theorem runeIs (r : Int) (w : World) : Calls Try.prog 62 #[.int .i32 r] w fun e w' => e = .returned (.bool (okRune r)) ∧ w = w' := by
  by_cases hs : r = 39 ∨ r = 45 ∨ r = 43 ∨ r = 42 ∨ r = 60 ∨ r = 61 ∨ r = 46
  · rcases hs with rfl | rfl | rfl | rfl | rfl | rfl | rfl
    all_goals (
      go_enter Try.func62, Try.ntmps62
      go_wp2
      go_ret
      exact ⟨rfl, rfl⟩)
  · have hok : okRune r = (letterR r || digitR r) := by
      rw [Bool.eq_iff_iff, okRune_iff]
      simp only [letterR, digitR, Bool.or_eq_true, Bool.and_eq_true, decide_eq_true_eq]
      omega
    have HOK := Lib.hid hok
    clear hok
    simp only [not_or] at hs
    obtain ⟨h1, h2, h3, h4, h5, h6, h7⟩ := hs
    have q1 : (r == 39) = false := by simpa using h1
    have q2 : (r == 45) = false := by simpa using h2
    have q3 : (r == 43) = false := by simpa using h3
    have q4 : (r == 42) = false := by simpa using h4
    have q5 : (r == 60) = false := by simpa using h5
    have q6 : (r == 61) = false := by simpa using h6
    have q7 : (r == 46) = false := by simpa using h7
    cases hl : letterR r with
    | true =>
      have HL := Lib.hid hl
      clear hl
      go_enter Try.func62, Try.ntmps62
      go_wp2_with fail
      refine (letterIs _ _).mono ?_
      rw [HL.out]
      rintro e w1 ⟨rfl, rfl⟩
      go_wp2
      go_ret
      exact ⟨congrArg (fun b => Ending.returned (.bool b)) (by rw [HOK.out, HL.out]; rfl), rfl⟩
    | false =>
      have HL := Lib.hid hl
      clear hl
      go_enter Try.func62, Try.ntmps62
      go_wp2_with fail
      refine (letterIs _ _).mono ?_
      rw [HL.out]
      rintro e w1 ⟨rfl, rfl⟩
      go_wp2_with fail
      refine (digitIs _ _).mono ?_
      rintro e w1 ⟨rfl, rfl⟩
      go_wp2
      go_ret
      exact ⟨congrArg (fun b => Ending.returned (.bool b)) (by rw [HOK.out, HL.out]; rfl), rfl⟩
end Go.Proofs.Ytbcfeoobhemdcaa
namespace Go.Proofs.Ytbcfeoobhemdcaa
open Go.RowKit Go.Lib

mutual
def SX.same : SX → SX → Bool
  | .mk a l, .mk b m => decide (a = b) && decide (l.length = m.length) && SX.sameL l m
def SX.sameL : List SX → List SX → Bool
  | [], _ => true
  | _ :: _, [] => true
  | x :: r, y :: s => x.same y && SX.sameL r s
end
theorem SX.same_eq (x y : SX) : x.same y = (decide (x.atom = y.atom) && decide (x.list.length = y.list.length) && SX.sameL x.list y.list) := by cases x; cases y; rw [SX.same]; rfl
theorem SX.sameL_take : ∀ (l m : List SX) (j : Nat) (h : j < l.length) (h' : j < m.length), SX.sameL (l.take (j + 1)) (m.take (j + 1)) = (SX.sameL (l.take j) (m.take j) && l[j].same m[j])
  | x :: r, y :: s, 0, _, _ => by simp [SX.sameL]
  | x :: r, y :: s, j + 1, h, h' => by
    have := SX.sameL_take r s j (by simpa using h) (by simpa using h')
    rw [List.take_succ_cons, List.take_succ_cons, List.take_succ_cons, List.take_succ_cons, SX.sameL, SX.sameL, this]
    simp [Bool.and_assoc]
theorem SX.sameL_false : ∀ (l m : List SX) (j : Nat) (h : j < l.length) (h' : j < m.length), l[j].same m[j] = false → SX.sameL l m = false
  | x :: r, y :: s, 0, _, _, hf => by rw [SX.sameL]; simp at hf; rw [hf]; rfl
  | x :: r, y :: s, j + 1, h, h', hf => by rw [SX.sameL, SX.sameL_false r s j (by simpa using h) (by simpa using h') (by simpa using hf), Bool.and_false]
mutual
theorem SX.same_iff : ∀ (x y : SX), x.same y = true ↔ x = y
  | .mk a l, .mk b m => by
    rw [SX.same, Bool.and_eq_true, Bool.and_eq_true, decide_eq_true_eq, decide_eq_true_eq, SX.mk.injEq]
    constructor
    · rintro ⟨⟨h1, h2⟩, h3⟩; exact ⟨h1, (SX.sameL_iff l m h2).1 h3⟩
    · rintro ⟨h1, h2⟩; subst h2; exact ⟨⟨h1, rfl⟩, (SX.sameL_iff l l rfl).2 rfl⟩
theorem SX.sameL_iff : ∀ (l m : List SX), l.length = m.length → (SX.sameL l m = true ↔ l = m)
  | [], m, h => by rw [SX.sameL]; simp; exact List.eq_nil_of_length_eq_zero h.symm
  | x :: r, [], h => by simp at h
  | x :: r, y :: s, h => by rw [SX.sameL, Bool.and_eq_true, SX.same_iff x y, SX.sameL_iff r s (by simpa using h), List.cons.injEq]
end

theorem bytes_ne {a b : ByteArray} (h : a ≠ b) : (a.toList == b.toList) = false := by
  rw [beq_eq_false_iff_ne]
  intro e
  rw [ByteArray.toList_eq, ByteArray.toList_eq] at e
  exact h (ByteArray.ext (Array.toList_inj.1 e))
/-- Two boxed parameters, and what the loop reads of them. -/
theorem boxed2 {w wr : World} {t : TypeId} {a a' : ByteArray} {A A' : Option Addr} {n c n' c' : Nat}
    (hb : Below (w.heap.size + 2) ((w.alloc (.cells #[.string a, .slice A n c] t)).alloc (.cells #[.string a', .slice A' n' c'] t)) wr) :
    wr.cell? ⟨w.heap.size, 0, none⟩ = some (.string a) ∧ wr.cell? ⟨w.heap.size, 1, none⟩ = some (.slice A n c) ∧
    wr.cell? ⟨w.heap.size + 1, 0, none⟩ = some (.string a') ∧ wr.cell? ⟨w.heap.size + 1, 1, none⟩ = some (.slice A' n' c') ∧ Below w.heap.size w wr := by
  have hw : Below (w.heap.size + 1) (w.alloc (.cells #[.string a, .slice A n c] t)) wr := ((Below.refl _ _).alloc (by simp) _).trans (hb.mono (by omega))
  obtain ⟨h0, h1, h2⟩ := boxed (hw.mono (by simp))
  have h := (Whole.new (w.alloc (.cells #[.string a, .slice A n c] t)) t #[.string a', .slice A' n' c']).below hb (by simp)
  rw [World.size_alloc] at h
  exact ⟨h0, h1, by rw [h.cell]; rfl, by rw [h.cell]; rfl, h2⟩

def SameX (N : Nat) : Prop := ∀ (x y : SX) (A B : Option Addr) (c d : Nat) (w : World), x.nodes ≤ N → x.nodes ≤ 4294967296 → y.nodes ≤ 4294967296 → ListAt w (Lt w.heap.size) A x.list → ListAt w (Lt w.heap.size) B y.list →
  Calls Try.prog 21 #[.agg #[.string x.atom, .slice A x.list.length c], .agg #[.string y.atom, .slice B y.list.length d]] w fun e w' => e = .returned (.bool (x.same y)) ∧ Below w.heap.size w w'

set_option maxRecDepth 100000 in
set_option maxHeartbeats 2000000 in
theorem sameX : ∀ N, SameX N
  | 0 => fun x y A B c d w hn => by rw [SX.nodes_eq] at hn; omega
  | N + 1 => by
    intro x y A B c d w hn hmx hmy hA hB
    have ih := sameX N
    have hne := SX.nodes_eq x
    have hny := SX.nodes_eq y
    have hlx := SX.nodesL_length x.list
    have hly := SX.nodesL_length y.list
    have hxl : x.list.length ≤ 4294967296 := by omega
    have hyl : y.list.length ≤ 4294967296 := by omega
    have hsq := SX.same_eq x y
    have hb2 : Below w.heap.size w ((w.alloc (.cells #[.string x.atom, .slice A x.list.length c] 26)).alloc (.cells #[.string y.atom, .slice B y.list.length d] 26)) :=
      ((Below.refl _ _).alloc (Nat.le_refl _) _).alloc (by simp) _
    have HA := Lib.hid hA
    have HB := Lib.hid hB
    have HE := Lib.hid hne
    have HF := Lib.hid hny
    clear hA hB hne hny
    by_cases hat : x.atom = y.atom
    case neg =>
      rw [decide_eq_false hat, Bool.false_and, Bool.false_and] at hsq
      have HS := Lib.hid hsq
      have hq := bytes_ne hat
      clear hsq hat
      go_enter Try.func21, Try.ntmps21
      go_wp2
      go_ret
      exact ⟨congrArg (fun b => Ending.returned (.bool b)) HS.out.symm, hb2⟩
    case pos =>
      rw [decide_eq_true hat, Bool.true_and] at hsq
      by_cases hlen : x.list.length = y.list.length
      · rw [decide_eq_true hlen, Bool.true_and] at hsq
        have HS := Lib.hid hsq
        have HL := Lib.hid hlen
        rw [hat, ← hlen]
        clear hsq hat hlen
        go_enter Try.func21, Try.ntmps21
        go_wp2
        go_loopw [5] (fun iv wr => ∃ k : Nat, k ≤ x.list.length ∧ iv = .int .i64 k ∧ SX.sameL (x.list.take k) (y.list.take k) = true ∧ Below (w.heap.size + 2) ((w.alloc (.cells #[.string y.atom, .slice A x.list.length c] 26)).alloc (.cells #[.string y.atom, .slice B x.list.length d] 26)) wr) (fun iv _ => x.list.length - (Go.RowKit.intOf iv).toNat)
        case atStart => exact ⟨0, Nat.zero_le _, rfl, by simp [SX.sameL], Below.refl _ _⟩
        case round =>
          obtain ⟨k, hk, rfl, hs, hb⟩ := hrel
          obtain ⟨a0, a1, c0, c1, hbw⟩ := boxed2 hb
          have hbs : w.heap.size + 2 ≤ wr.heap.size := by simpa using hb.size
          have HT := Lib.hid hs
          clear hs
          by_cases hlt : k < x.list.length
          · have hlt2 : k < y.list.length := by have := HL.out; omega
            obtain ⟨b, o, A', c', rfl, hP, hc0, hc1, hl'⟩ := (HA.out.below hbw).at_ hlt
            obtain ⟨b2, o2, B', d', rfl, hP2, hd0, hd1, hm'⟩ := (HB.out.below hbw).at_ hlt2
            have hx := hl'.frame (Q := Lt wr.heap.size) (fun b h => Nat.lt_of_lt_of_le h hbw.size) (fun _ _ _ => rfl)
            have hy := hm'.frame (Q := Lt wr.heap.size) (fun b h => Nat.lt_of_lt_of_le h hbw.size) (fun _ _ _ => rfl)
            have hst := SX.sameL_take x.list y.list k hlt hlt2
            have hno := SX.sameL_false x.list y.list k hlt hlt2
            rw [HT.out, Bool.true_and] at hst
            have hnx : x.list[k].nodes ≤ N := by have := SX.nodesL_at x.list k hlt; have := HE.out; omega
            have hnm : x.list[k].nodes ≤ 4294967296 := by have := SX.nodesL_at x.list k hlt; have := HE.out; omega
            have hny : y.list[k].nodes ≤ 4294967296 := by have := SX.nodesL_at y.list k hlt2; have := HF.out; omega
            have cE : ∀ dr os, Calls Try.prog 21 #[.agg #[.string x.list[k].atom, .slice A' x.list[k].list.length c'], .agg #[.string y.list[k].atom, .slice B' y.list[k].list.length d']] (Go.Sort.grow (redrawn wr dr) os) fun e w'' => e = .returned (.bool (x.list[k].same y.list[k])) ∧ ∃ p : Regrown, w'' = Go.Sort.grow (redrawn wr p.d) p.os :=
              fun dr os => Calls.regrown_of (ih x.list[k] y.list[k] A' B' c' d' _ hnx hnm hny (hx.grow (below_regrown wr dr os)) (hy.grow (below_regrown wr dr os)))
            have k0 := cell_regrown hc0
            have k1 := cell_regrown hc1
            have k2 := cell_regrown hd0
            have k3 := cell_regrown hd1
            have k4 := cell_regrown a1
            have k5 := cell_regrown c1
            have hk0 : (0 : Int) ≤ k := by omega
            have HSt := Lib.hid hst
            have HNo := Lib.hid hno
            clear hx hy hl' hm' hnx hst hno
            go_wp2
            refine wp_region_quiet_below (by kernel_rfl) (by kernel_rfl) ?_
            repeat (quiet_step (exact cE _ _))
            refine wpQuiet_nil ?_
            intro _ hw'
            obtain ⟨⟨dq, osq⟩, hw''⟩ := hw'
            subst hw''
            have hb3 := hb.trans ((below_regrown wr dq osq).mono hbs)
            have hbw3 := hbw.trans ((below_regrown wr dq osq).mono hbw.size)
            clear cE k0 k1 k2 k3 k4 k5
            cases hc : x.list[k].same y.list[k] with
            | true =>
              have HC := Lib.hid hc
              clear hc
              go_wp2
              go_roundw
              case rel => exact ⟨k + 1, by omega, by go_num, by rw [HSt.out, HC.out], hb3⟩
              case measure => simp [Go.RowKit.intOf]; omega
            | false =>
              have HC := Lib.hid hc
              clear hc
              go_wp2
              go_ret
              exact ⟨congrArg (fun b => Ending.returned (.bool b)) (HS.out.trans (HNo.out HC.out)).symm, hbw3⟩
          · have hkl : k = x.list.length := by omega
            subst hkl
            have ht := HT.out
            rw [List.take_length, HL.out, List.take_length] at ht
            have HT' := Lib.hid ht
            clear ht
            go_wp2
            go_ret
            exact ⟨congrArg (fun b => Ending.returned (.bool b)) (HS.out.trans HT'.out).symm, hbw⟩
      · rw [decide_eq_false hlen, Bool.false_and] at hsq
        have HS := Lib.hid hsq
        have hlz : ((x.list.length : Int) == y.list.length) = false := by rw [beq_eq_false_iff_ne]; omega
        clear hsq
        rw [hat] at hb2 ⊢
        clear hat
        go_enter Try.func21, Try.ntmps21
        go_wp2
        go_ret
        exact ⟨congrArg (fun b => Ending.returned (.bool b)) HS.out.symm, hb2⟩
end Go.Proofs.Ytbcfeoobhemdcaa
namespace Go.Proofs.Ytbcfeoobhemdcaa
open Go.RowKit

/-- What a round keeps: what lay below n₀, and the iterator's own blocks. -/
structure KeepsM (n₀ : Nat) (M : Nat → Prop) (W W' : World) : Prop where
  below : Below n₀ W W'
  own : ∀ b, M b → W'.heap[b]? = W.heap[b]?
theorem KeepsM.refl (n₀ : Nat) (M : Nat → Prop) (W : World) : KeepsM n₀ M W W := ⟨Below.refl _ _, fun _ _ => rfl⟩
theorem KeepsM.trans {n₀ : Nat} {M : Nat → Prop} {A B C : World} (h : KeepsM n₀ M A B) (k : KeepsM n₀ M B C) : KeepsM n₀ M A C := ⟨h.below.trans k.below, fun b hb => (k.own b hb).trans (h.own b hb)⟩
theorem KeepsM.putObj {n₀ : Nat} {M : Nat → Prop} {W : World} {l : Nat} {o' : Obj} (hn : n₀ ≤ l) (hl : l < W.heap.size) (hM : ¬ M l) : KeepsM n₀ M W (W.putObj l o') :=
  ⟨(Below.refl n₀ W).grown (grownBy_putObj' W l o') (by omega) (fun k e => by cases e; exact hn), fun b hb => World.putObj_heap_other (fun e => hM (e ▸ hb))⟩
theorem KeepsM.alloc {n₀ : Nat} {M : Nat → Prop} {W : World} (hn : n₀ ≤ W.heap.size) (hM : ∀ b, M b → b < W.heap.size) (o : Obj) : KeepsM n₀ M W (W.alloc o) :=
  ⟨(Below.refl n₀ W).alloc hn o, fun b hb => Below.heap_alloc W o b (hM b hb)⟩
theorem KeepsM.setCell {n₀ : Nat} {M : Nat → Prop} {W : World} {b : Nat} {o : Nat} (hn : n₀ ≤ b) (hM : ¬ M b) (v : Value) : KeepsM n₀ M W (W.setCell ⟨b, o, none⟩ v) :=
  ⟨(Below.refl n₀ W).setCell (p := ⟨b, o, none⟩) hn v, fun k hk => Below.heap_setCell W _ v k (fun e => hM (by rw [← show k = b from e]; exact hk))⟩
theorem KeepsM.grown {n₀ : Nat} {M : Nat → Prop} {W W' : World} {row : Option Nat} (hg : W.grownBy W' row) (hn : n₀ ≤ W.heap.size) (hM : ∀ b, M b → b < W.heap.size) (hr : ∀ k, row = some k → n₀ ≤ k ∧ ¬ M k) : KeepsM n₀ M W W' :=
  ⟨(Below.refl n₀ W).grown hg hn (fun k e => (hr k e).1), fun b hb => hg.block b (hM b hb) (fun e => (hr b e.symm).2 hb)⟩
theorem KeepsM.of_below {n₀ : Nat} {M : Nat → Prop} {W W' : World} (hb : Below W.heap.size W W') (hn : n₀ ≤ W.heap.size) (hM : ∀ b, M b → b < W.heap.size) : KeepsM n₀ M W W' :=
  ⟨hb.mono hn, fun b hb' => hb.block b (hM b hb')⟩
theorem grown_none {A B : World} (h : Below A.heap.size A B) : A.grownBy B none := ⟨h.os, h.tape, h.output, h.size, fun k hk _ => h.block k hk⟩
theorem grownBy_setCell'' (W : World) (b o : Nat) (v : Value) : W.grownBy (W.setCell ⟨b, o, none⟩ v) (some b) :=
  ⟨rfl, rfl, rfl, by simp, fun k _ hk => Below.heap_setCell _ _ _ k (fun e => hk (by rw [e]))⟩
theorem KeepsFrom.of_below {B : Nat} {W W' : World} (hb : Below W.heap.size W W') : KeepsFrom B W W' :=
  ⟨hb.size, fun k _ _ hk _ => (hb.block k (Array.getElem?_eq_some_iff.1 hk).1).trans hk⟩

/-- THE ITERATOR's CONTRACT: J and Jx are the caller's; M: the blocks that the iterator has made; Rd: those that it only reads. -/
def SeqM {α : Type} (F : Fence) (n : Nat) (P : Program) (g : Nat) (lb : Array Value) (encs : α → Array Value) (Ok : List α → α → Prop) (S : List α → Prop) (n₀ : Nat) (Rd : Nat → Prop) (w : World) : Prop :=
  ∀ (l : Nat) (J : (Nat → Prop) → List α → World → Prop) (Jx : List α → World → Prop) (W : World), Below w.heap.size w W →
    (∀ M s A B row, J M s A → A.grownBy B row → (∀ r, row = some r → M r) → J (fun b => M b ∨ (A.heap.size ≤ b ∧ b < B.heap.size)) s B) →
    (∀ M pre x W1, J M pre W1 → Ok pre x → YieldAt F (n - 1) P l (encs x) W1 fun e W' =>
      (e = .returned (.bool true) ∧ J M (pre ++ [x]) W' ∧ KeepsM n₀ (fun b => M b ∨ Rd b) W1 W') ∨ (e = .returned (.bool false) ∧ Jx (pre ++ [x]) W')) →
    J (fun _ => False) [] W →
    CallsIn F n P g (#[.func (.yield l) #[] #[]] ++ lb) W fun e W' => (∃ v, e = .returned v) ∧ ((∃ M xs, S xs ∧ J M xs W') ∨ (∃ pre, Jx pre W'))

/-- THE CALLER's INVARIANT abides the iterator's steps, and the turns of what is no cells, from B on. -/
def OwnM {β : Type} (B : Nat) (I : (Nat → Prop) → β → World → Prop) : Prop :=
  ∀ M M' s A A' row, I M s A → A.grownBy A' row → (∀ r, row = some r → B ≤ r ∧ (M r ∨ ∃ o : Obj, A.heap[r]? = some o ∧ o.isCells = false)) → (∀ b, M' b → M b ∨ A.heap.size ≤ b) → I M' s A'
theorem OwnM.and {β : Type} {B : Nat} {I I' : (Nat → Prop) → β → World → Prop} (h : OwnM B I) (h' : OwnM B I') : OwnM B (fun M s W => I M s W ∧ I' M s W) :=
  fun M M' s A A' row hs hg hr hM => ⟨h M M' s A A' row hs.1 hg hr hM, h' M M' s A A' row hs.2 hg hr hM⟩
theorem OwnM.from {β : Type} {B : Nat} {I : (Nat → Prop) → β → World → Prop} (h : OwnM B I) (M : Nat → Prop) : OwnFrom B (I M) :=
  fun s A A' row hs hg hr => h M M s A A' row hs hg (fun r e => ⟨(hr r e).1, .inr (hr r e).2⟩) (fun _ hb => .inl hb)
theorem ownM_pure {β : Type} (B : Nat) (p : β → Prop) : OwnM B (fun _ s (_ : World) => p s) := fun _ _ _ _ _ _ hs _ _ _ => hs
theorem ownM_below {β : Type} {B n₀ : Nat} {w : World} (hn : n₀ ≤ B) (hs : n₀ ≤ w.heap.size) : OwnM B (fun _ (_ : β) W => Below n₀ w W) :=
  fun _ _ _ A A' row h hg hr _ => h.grown hg (by have := h.size; omega) (fun k e => by have := (hr k e).1; omega)
theorem ownM_boxed {β : Type} {B Bx : Nat} (t : TypeId) (f : β → Value) (hx : Bx < B) : OwnM B (fun _ s W => Boxed W Bx t (f s)) :=
  fun _ _ _ _ _ _ hs hg hr _ => hs.kept hg (fun e => by have := (hr _ e.symm).1; omega)
/-- A box that holds a slice with memory of its own, none of it the iterator's. -/
theorem ownM_row {β : Type} (n₀ : Nat) {B Bx : Nat} (t e : TypeId) (size : Nat) (k : β → Nat) (f : β → List Value) (G : β → Value → Prop) (hx : Bx < B) :
    OwnM B (fun M s W => ∃ v, Boxed W Bx t v ∧ W.ownsRow n₀ e size v (k s) (f s) ∧ (∀ b, v.ownBlock = some b → ¬ M b) ∧ G s v) := by
  rintro M M' s A A' row ⟨v, hv, hr, hn, hG⟩ hg hrow hM
  refine ⟨v, hv.kept hg (fun e' => by have := (hrow _ e'.symm).1; omega), hr.kept hg ?_, fun b hb h' => ?_, hG⟩
  · rcases hr.2 with ⟨rfl, _⟩ | ⟨g, cap, cur, rfl, _, hgb, _⟩
    · exact .inl rfl
    · refine .inr fun e' => ?_
      have e2 : row = some g := by simpa [Value.ownBlock] using e'.symm
      rcases (hrow g e2).2 with h | ⟨o, ho, hc⟩
      · exact hn g rfl h
      · rw [hgb] at ho; cases ho; cases hc
  · rcases hM b h' with h | h
    · exact hn b hb h
    · have := (hr.lt b hb).2; omega

theorem boxed_set_int {W : World} {B : Nat} {t : TypeId} {v : Value} {z z' : Int} (h : Boxed W B t v) (e : z = z') : Boxed (W.setCell ⟨B, 0, none⟩ (.int .i64 z)) B t (.int .i64 z') := e ▸ h.set _
theorem whole_kept {W W' : World} {row : Option Nat} {B : Nat} {t : TypeId} {cs : Array Value} (h : Whole W B t cs) (hg : W.grownBy W' row) (hr : ∀ r, row = some r → ∃ o : Obj, W.heap[r]? = some o ∧ o.isCells = false) : Whole W' B t cs :=
  (hg.block B h.lt (fun e => by obtain ⟨o, ho, hc⟩ := hr B e.symm; rw [show W.heap[B]? = _ from h] at ho; cases ho; cases hc)).trans h
/-- A new block of the round's. -/
theorem OwnM.alloc_ {β : Type} {B : Nat} {I : (Nat → Prop) → β → World → Prop} (h : OwnM B I) {M : Nat → Prop} {s : β} {W : World} {o : Obj} (hs : I M s W) (_hM : ∀ b, M b → B < b) : I M s (W.alloc o) :=
  h M M s W _ none hs (World.grownBy_alloc W o none) (fun r e => by cases e) (fun _ hb => .inl hb)

/-- HOW THE BODY OF A ROUND MAY BE LEFT. -/
def ownPostM {α : Type} (B n₀ : Nat) (Rd : Nat → Prop) (I : (Nat → Prop) → List α → World → Prop) (Ix : Code → List α → World → Prop) (M : Nat → Prop) (xs : List α) (W : World) : Exit → Act → World → Prop
  | .normal, _, W' => KeepsFrom B W W' ∧ KeepsM n₀ (fun b => M b ∨ Rd b) W W' ∧ I M xs W'
  | .ret, _, W' => KeepsFrom B W W' ∧ Ix .ret xs W'
  | .exit id, _, W' => KeepsFrom B W W' ∧ Ix (.exit id) xs W'
  | .goto t, _, W' => KeepsFrom B W W' ∧ Ix (.goto t) xs W'
  | .panic _, _, _ => False
  | .outgrown, _, _ => False

variable {F : Fence} {n : Nat} {P : Program}

theorem wpIn_rangeFunc_ownM {α : Type} {g : Operand} {ps : Array Tmp} {assign body : Code} {Q : Exit → Act → World → Prop} {a : Act} {w : World}
    (hro : F.round = none) (h1 : 1 ≤ n) {gf : Nat} {lb : Array Value} (hg : a.eval g = .func (.func gf) #[] lb) (hFg : F.fn gf) (eg : ∀ args w, (callFunc gf args).run P w = .ok (.enter gf args) w)
    {encs : α → Array Value} {Ok : List α → α → Prop} {S : List α → Prop} {n₀ : Nat} {Rd : Nat → Prop} {w0 : World} (hseq : SeqM F (n - 1) P gf lb encs Ok S n₀ Rd w0) (hRd : ∀ b, Rd b → b < w.heap.size)
    (hb0 : Below w0.heap.size w0 w) (hn0 : n₀ ≤ w.heap.size) (hps : ∀ x, (encs x).size = ps.size)
    (I : (Nat → Prop) → List α → World → Prop) (Ix : Code → List α → World → Prop) (hI : OwnM w.heap.size I) (hIx : ∀ c, OwnFrom w.heap.size (Ix c)) (h0 : ∀ M : Nat → Prop, (∀ b, M b → w.heap.size ≤ b) → I M [] w) (Ax : α → Act → World → Prop) (hAx : ∀ x a', OwnFrom w.heap.size (fun (_ : Unit) W => Ax x a' W))
    (hassign : ∀ (l : Nat) (M : Nat → Prop) (pre : List α) (x : α) (W : World) (K : Act → World → Prop), (∀ b, M b → w.heap.size < b) → (∀ b, M b ∨ Rd b → b < W.heap.size) → w.heap.size + 1 < W.heap.size → I M pre W → Ok pre x → (∀ a' W', KeepsFrom w.heap.size W W' → KeepsM n₀ (fun b => M b ∨ Rd b) W W' → I M pre W' → Ax x a' W' → K a' W') →
      assign.wpIn (F.inRound l) (n - 1 - 1) P (Exit.then K (fun _ _ _ => False)) { tmps := (ps.zip (encs x)).foldl (fun t (p, v) => t.setIfInBounds p v) a.tmps, defers := [] } W)
    (hbody : ∀ (l : Nat) (M : Nat → Prop) (pre : List α) (x : α) (a' : Act) (W : World), (∀ b, M b → w.heap.size < b) → (∀ b, M b ∨ Rd b → b < W.heap.size) → w.heap.size + 1 < W.heap.size → I M pre W → Ax x a' W → Ok pre x → body.wpIn (F.inRound l) (n - 1 - 1) P (ownPostM w.heap.size n₀ Rd I Ix M (pre ++ [x]) W) a' W)
    (hdone : ∀ (D : Nat) (M : Nat → Prop) (xs : List α) (W : World), w.heap.size ≤ D → S xs → I M xs W → W.heap[D]? = some (.deferred (some [])) → Q .normal { a with defers := { target := .collected D, args := #[] } :: a.defers } W)
    (hstop : ∀ (D : Nat) (c : Code) (pre : List α) (W : World), w.heap.size ≤ D → Ix c pre W → W.heap[D]? = some (.deferred (some [])) → c.wpIn F n P Q { a with defers := { target := .collected D, args := #[] } :: a.defers } W) :
    (Code.rangeFunc g ps assign body).wpIn F n P Q a w := by
  refine wpIn_rangeFunc ?_
  intro fn hfn
  rw [hro]
  obtain ⟨rec, hrec⟩ : ∃ rec : LoopState → Option Code → Loop, rec = fun st pe => { state := st, pending := pe, fn, tmps := a.tmps, params := ps, assign, body, defers := w.heap.size } := ⟨_, rfl⟩
  obtain ⟨W1, hW1⟩ : ∃ W1, (w.alloc (.deferred (some []))).alloc (.loop (rec .ready none)) = W1 := ⟨_, rfl⟩
  have hsz : W1.heap.size = w.heap.size + 2 := by rw [← hW1]; simp
  have hL1 : W1.heap[w.heap.size + 1]? = some (.loop (rec .ready none)) := by
    rw [← hW1]; have := World.alloc_heap_new (w.alloc (.deferred (some []))) (.loop (rec .ready none)); rwa [World.size_alloc] at this
  have hK1 : W1.heap[w.heap.size]? = some (.deferred (some [])) := by
    rw [← hW1]; exact (Below.heap_alloc _ _ _ (by simp)).trans (World.alloc_heap_new w _)
  have hI1 : I (fun _ => False) [] W1 := by
    have h := h0 (fun _ => False) (fun _ h => h.elim)
    rw [← hW1]; exact (hI.from _).alloc _ ((hI.from _).alloc _ h)
  have hb1 : Below w0.heap.size w0 W1 := by
    rw [← hW1]; exact hb0.trans ((((Below.refl _ w).alloc (Nat.le_refl _) _).alloc (by simp) _).mono hb0.size)
  refine ⟨w.heap.size + 1, [{ target := .collected w.heap.size, args := #[] }], W1, { target := .fn (.func gf) lb, args := #[.func (.yield (w.heap.size + 1)) #[] #[]] }, W1, gf,
    #[.func (.yield (w.heap.size + 1)) #[] #[]] ++ lb, W1, ?_, ?_, ?_, ?_, fun _ => h1, ?_⟩
  · rw [← hW1, hrec]; exact run_enterLoop_outer _ _ _ _ _
  · simp only [resolve, hg]
    simp [go_sem]
  · intro f' hf'; simp [Target.leads] at hf'; subst hf'; exact hFg
  · simp [invoke, go_sem, eg]
  · refine (hseq (w.heap.size + 1)
      (fun M pre W => (∀ b, M b → w.heap.size + 2 ≤ b ∧ b < W.heap.size) ∧ I M pre W ∧ W.heap[w.heap.size + 1]? = some (.loop (rec .ready none)) ∧ W.heap[w.heap.size]? = some (.deferred (some [])))
      (fun pre W => ∃ c, Ix c pre W ∧ W.heap[w.heap.size + 1]? = some (.loop (rec .done (some c))) ∧ W.heap[w.heap.size]? = some (.deferred (some [])))
      W1 hb1 ?_ ?_ ⟨fun _ h => h.elim, hI1, hL1, hK1⟩).mono ?_
    · rintro M s A B row ⟨hM, hi, hl, hk⟩ hg' hr
      have hlt : w.heap.size + 1 < A.heap.size := (Array.getElem?_eq_some_iff.1 hl).1
      have hsz' := hg'.size
      refine ⟨fun b hb => ?_, hI M _ s A B row hi hg' (fun r e => ⟨by have := (hM r (hr r e)).1; omega, .inl (hr r e)⟩) (fun b hb => hb.imp_right (fun h => h.1)), ?_, ?_⟩
      · rcases hb with hb | hb
        · have := hM b hb; omega
        · omega
      · exact (hg'.block _ hlt (fun e => by have := (hM _ (hr _ e.symm)).1; omega)).trans hl
      · exact (hg'.block _ (by omega) (fun e => by have := (hM _ (hr _ e.symm)).1; omega)).trans hk
    · rintro M pre x W ⟨hM, hi, hl, hk⟩ hok
      have hlt : w.heap.size + 1 < W.heap.size := (Array.getElem?_eq_some_iff.1 hl).1
      have hy := run_yield (P := P) (args := encs x) hl (by rw [hrec]; exact hps x)
      rw [hrec] at hy
      refine ⟨fn, _, assign, body, hy, roundIn_of_wpIn hfn (hassign _ M pre x W _ (fun b hb => by have := hM b hb; omega) (fun b hb => hb.elim (fun h => (hM b h).2) (fun h => by have := hRd b h; omega)) hlt hi hok ?_)⟩
      clear hy
      intro a' Wa hkfa hkpa hia hax
      replace hl := hkfa.same _ _ (by omega) hl rfl
      replace hk := hkfa.same _ _ (Nat.le_refl _) hk rfl
      replace hlt : w.heap.size + 1 < Wa.heap.size := (Array.getElem?_eq_some_iff.1 hl).1
      replace hM : ∀ b, M b → w.heap.size + 2 ≤ b ∧ b < Wa.heap.size := fun b hb => ⟨(hM b hb).1, by have := (hM b hb).2; have := hkfa.size; omega⟩
      replace hi := hia
      clear hia
      revert hkpa hkfa
      generalize W = Wb
      intro hkfa hkpa
      obtain ⟨W, rfl⟩ : ∃ W, W = Wa := ⟨_, rfl⟩
      refine ⟨_, run_beginRound hl (by rw [hrec]), ?_⟩
      have hl2 : (W.putObj (w.heap.size + 1) (.loop { rec .ready none with state := .busy })).heap[w.heap.size + 1]? = some (.loop { rec .ready none with state := .busy }) := World.putObj_heap_same hlt
      have hk2 : (W.putObj (w.heap.size + 1) (.loop { rec .ready none with state := .busy })).heap[w.heap.size]? = some (.deferred (some [])) := (World.putObj_heap_other (by omega)).trans hk
      have hw2 : KeepsM n₀ (fun b => M b ∨ Rd b) W (W.putObj (w.heap.size + 1) (.loop { rec .ready none with state := .busy })) := KeepsM.putObj (by omega) hlt (fun h => h.elim (fun h => by have := (hM _ h).1; omega) (fun h => by have := hRd _ h; omega))
      refine wpIn_mono (hbody _ M pre x a' _ (fun b hb => by have := hM b hb; omega) (fun b hb => by simp; exact hb.elim (fun h => (hM b h).2) (fun h => by have := hRd b h; omega)) (by simp; omega) ((hI.from M).putObj _ hi (by omega) hl rfl) ((hAx x a').putObj (s := ()) _ hax (by omega) hl rfl) hok) ?_
      have fin : ∀ (jump : Option Code) (W3 : World), KeepsFrom w.heap.size (W.putObj (w.heap.size + 1) (.loop { rec .ready none with state := .busy })) W3 →
          (Instr.endRound (w.heap.size + 1) jump).run P W3 = .ok (.bool jump.isNone) (W3.putObj (w.heap.size + 1) (.loop (rec (if jump.isNone then .ready else .done) jump))) ∧
          W3.heap[w.heap.size + 1]? = some (.loop { rec .ready none with state := .busy }) ∧
          (W3.putObj (w.heap.size + 1) (.loop (rec (if jump.isNone then .ready else .done) jump))).heap[w.heap.size + 1]? = some (.loop (rec (if jump.isNone then .ready else .done) jump)) ∧
          (W3.putObj (w.heap.size + 1) (.loop (rec (if jump.isNone then .ready else .done) jump))).heap[w.heap.size]? = some (.deferred (some [])) := fun jump W3 hk3 => by
        have hl3 := hk3.same _ _ (by omega) hl2 rfl
        have := run_endRound (P := P) jump hl3
        rw [hrec] at this ⊢
        exact ⟨this, by rw [hrec] at hl3; exact hl3, World.putObj_heap_same (Array.getElem?_eq_some_iff.1 hl3).1, (World.putObj_heap_other (by omega)).trans (hk3.same _ _ (Nat.le_refl _) hk2 rfl)⟩
      rintro e a3 W3 hp
      cases e with
      | normal =>
        obtain ⟨hk3, hkp3, hi3⟩ := hp
        obtain ⟨hr, hl3, hl4, hk4⟩ := fin none W3 hk3
        have hlt3 := (Array.getElem?_eq_some_iff.1 hl3).1
        have hsz3 := hk3.size
        simp at hsz3
        exact ⟨_, _, hr, .inl ⟨rfl, ⟨fun b hb => by have := hM b hb; simp; omega, (hI.from M).putObj _ hi3 (by omega) hl3 rfl, hl4, hk4⟩, hkpa.trans ((hw2.trans hkp3).trans (KeepsM.putObj (by omega) hlt3 (fun h => h.elim (fun h => by have := (hM _ h).1; omega) (fun h => by have := hRd _ h; omega))))⟩⟩
      | ret =>
        obtain ⟨hk3, hi3⟩ := hp
        obtain ⟨hr, hl3, hl4, hk4⟩ := fin (some .ret) W3 hk3
        exact ⟨_, _, hr, .inr ⟨rfl, .ret, (hIx _).putObj _ hi3 (by omega) hl3 rfl, hl4, hk4⟩⟩
      | exit id =>
        obtain ⟨hk3, hi3⟩ := hp
        obtain ⟨hr, hl3, hl4, hk4⟩ := fin (some (.exit id)) W3 hk3
        exact ⟨_, _, hr, .inr ⟨rfl, .exit id, (hIx _).putObj _ hi3 (by omega) hl3 rfl, hl4, hk4⟩⟩
      | goto t =>
        obtain ⟨hk3, hi3⟩ := hp
        obtain ⟨hr, hl3, hl4, hk4⟩ := fin (some (.goto t)) W3 hk3
        exact ⟨_, _, hr, .inr ⟨rfl, .goto t, (hIx _).putObj _ hi3 (by omega) hl3 rfl, hl4, hk4⟩⟩
      | panic ch => exact hp.elim
      | outgrown => exact hp.elim
    · rintro e W2 ⟨⟨v, rfl⟩, (⟨M, xs, hS, hM, hi, hl, hk⟩ | ⟨pre, c, hi, hl, hk⟩)⟩
      · exact ⟨none, _, by have := run_endLoop (P := P) hl (by rw [hrec]; simp); rw [hrec] at this; exact this, hdone _ M xs _ (Nat.le_refl _) hS ((hI.from M).putObj _ hi (by omega) hl rfl) ((World.putObj_heap_other (by omega)).trans hk)⟩
      · exact ⟨some c, _, by have := run_endLoop (P := P) hl (by rw [hrec]; simp); rw [hrec] at this; exact this, hstop _ c pre _ (Nat.le_refl _) ((hIx c).putObj _ hi (by omega) hl rfl) ((World.putObj_heap_other (by omega)).trans hk)⟩
end Go.Proofs.Ytbcfeoobhemdcaa
namespace Go.Proofs.Ytbcfeoobhemdcaa
open Go.RowKit

mutual
def TypeX.walk (d : Nat) : TypeX → List (Nat × TypeX)
  | .mk a b c => (d, .mk a b c) :: TypeX.walkL (d + 1) c
def TypeX.walkL (d : Nat) : List TypeX → List (Nat × TypeX)
  | [] => []
  | x :: r => x.walk d ++ TypeX.walkL d r
end
theorem TypeX.walk_eq (d : Nat) (x : TypeX) : x.walk d = (d, x) :: TypeX.walkL (d + 1) x.args_ := by cases x with | mk a b c => rw [TypeX.walk]; rfl
/-- What the lists of a stack (the top one first) have still to give. -/
def todoType : List (List TypeX) → List (Nat × TypeX)
  | [] => []
  | l :: r => TypeX.walkL r.length l ++ todoType r
theorem todoType_pop (r : List (List TypeX)) : todoType ([] :: r) = todoType r := by rw [todoType, TypeX.walkL]; rfl
theorem todoType_step (x : TypeX) (l : List TypeX) (r : List (List TypeX)) : todoType ((x :: l) :: r) = (r.length, x) :: todoType (x.args_ :: l :: r) := by
  rw [todoType, todoType, todoType, TypeX.walkL, TypeX.walk_eq, List.length_cons]
  simp
theorem todoType_start (x : TypeX) : todoType [[x]] = x.walk 0 := by simp [todoType, TypeX.walkL]
end Go.Proofs.Ytbcfeoobhemdcaa
namespace Go.Proofs.Ytbcfeoobhemdcaa
open Go.RowKit
theorem boxed_below {W W' : World} {B : Nat} {t : TypeId} {v : Value} (h : Boxed W B t v) (hb : Below W.heap.size W W') : Boxed W' B t v := (hb.block _ h.lt).trans h
theorem boxed_far {W : World} {B b o : Nat} {t : TypeId} {v u : Value} (h : Boxed W B t v) (hne : B ≠ b) : Boxed (W.setCell ⟨b, o, none⟩ u) B t v := (Below.heap_setCell W _ u B hne).trans h
theorem boxed_bool {W : World} {B : Nat} {t : TypeId} {v : Value} {z z' : Bool} (h : Boxed W B t v) (e : z = z') : Boxed (W.setCell ⟨B, 0, none⟩ (.bool z)) B t (.bool z') := e ▸ h.set _
theorem boxed_putObj {W : World} {B l : Nat} {t : TypeId} {v : Value} {o : Obj} (h : Boxed W B t v) (hne : B ≠ l) : Boxed (W.putObj l o) B t v := (World.putObj_heap_other hne).trans h
theorem below_putObj {n₀ D : Nat} {w W : World} (h : Below n₀ w W) (o : Obj) (hn : n₀ ≤ w.heap.size) (hD : n₀ ≤ D) : Below n₀ w (W.putObj D o) :=
  h.grown (grownBy_putObj' W D o) (by have := h.size; omega) (fun k e => by cases e; exact hD)
theorem keepsFrom_set {W W' : World} {B b o : Nat} {u : Value} (h : KeepsFrom B W W') : KeepsFrom B W (W'.setCell ⟨b, o, none⟩ u) := h.trans ((KeepsOthers.setCell _ _ _).from _)
theorem keepsFrom_alloc {W W' : World} {B : Nat} {o : Obj} (h : KeepsFrom B W W') : KeepsFrom B W (W'.alloc o) := h.trans ((KeepsOthers.alloc _ _).from _)
end Go.Proofs.Ytbcfeoobhemdcaa
namespace Go.Proofs.Ytbcfeoobhemdcaa
open Go.RowKit Go.Lib

/-- What formOf hands back. -/
def tyForm (k : Int) (v : Value) : Value :=
  if k == 1 then .iface 124 v else if k == 2 then .iface 125 v else if k == 3 then .iface 85 v else if k == 4 then .iface 126 v else .nilIface
theorem tyForm1 {k : Int} (v : Value) (h : (k == 1) = true) : tyForm k v = .iface 124 v := by rw [tyForm, if_pos h]
theorem tyForm2 {k : Int} (v : Value) (h : (k == 2) = true) : tyForm k v = .iface 125 v := by
  have : k = 2 := by simpa using h
  subst this; rfl
theorem tyForm3 {k : Int} (v : Value) (h : (k == 3) = true) : tyForm k v = .iface 85 v := by
  have : k = 3 := by simpa using h
  subst this; rfl
theorem tyForm4 {k : Int} (v : Value) (h : (k == 4) = true) : tyForm k v = .iface 126 v := by
  have : k = 4 := by simpa using h
  subst this; rfl
theorem tyForm0 {k : Int} (v : Value) (h1 : (k == 1) = false) (h2 : (k == 2) = false) (h3 : (k == 3) = false) (h4 : (k == 4) = false) : tyForm k v = .nilIface := by
  rw [tyForm, h1, h2, h3, h4]; rfl

abbrev zeroTy : Value := .agg #[.int .i64 0, .string ByteArray.empty, .slice none 0 0]
theorem asV1 (v : Value) (w : World) : (Instr.typeAssert (.iface 124 v) 88 124 true).run Try.prog w = .ok (.tuple #[v, .bool true]) w := by kernel_rfl
theorem asV2 (v : Value) (w : World) : (Instr.typeAssert (.iface 125 v) 88 124 true).run Try.prog w = .ok (.tuple #[zeroTy, .bool false]) w := by kernel_rfl
theorem asV3 (v : Value) (w : World) : (Instr.typeAssert (.iface 85 v) 88 124 true).run Try.prog w = .ok (.tuple #[zeroTy, .bool false]) w := by kernel_rfl
theorem asV4 (v : Value) (w : World) : (Instr.typeAssert (.iface 126 v) 88 124 true).run Try.prog w = .ok (.tuple #[zeroTy, .bool false]) w := by kernel_rfl
theorem asV0 (w : World) : (Instr.typeAssert .nilIface 88 124 true).run Try.prog w = .ok (.tuple #[zeroTy, .bool false]) w := by kernel_rfl
theorem asP1 (v : Value) (w : World) : (Instr.typeAssert (.iface 124 v) 88 85 true).run Try.prog w = .ok (.tuple #[zeroTy, .bool false]) w := by kernel_rfl
theorem asP2 (v : Value) (w : World) : (Instr.typeAssert (.iface 125 v) 88 85 true).run Try.prog w = .ok (.tuple #[zeroTy, .bool false]) w := by kernel_rfl
theorem asP3 (v : Value) (w : World) : (Instr.typeAssert (.iface 85 v) 88 85 true).run Try.prog w = .ok (.tuple #[v, .bool true]) w := by kernel_rfl
theorem asP4 (v : Value) (w : World) : (Instr.typeAssert (.iface 126 v) 88 85 true).run Try.prog w = .ok (.tuple #[zeroTy, .bool false]) w := by kernel_rfl
theorem asP0 (w : World) : (Instr.typeAssert .nilIface 88 85 true).run Try.prog w = .ok (.tuple #[zeroTy, .bool false]) w := by kernel_rfl

/-- Whatever the kind: is it a variable? -/
theorem as_var {k : Int} (v : Value) (h : (k == 1) = false) (w : World) : (Instr.typeAssert (tyForm k v) 88 124 true).run Try.prog w = .ok (.tuple #[zeroTy, .bool false]) w := by
  unfold tyForm
  rw [h]
  simp only [Bool.false_eq_true, if_false]
  split
  · exact asV2 v w
  · split
    · exact asV3 v w
    · split
      · exact asV4 v w
      · exact asV0 w
theorem as_proj {k : Int} (v : Value) (h : (k == 3) = false) (w : World) : (Instr.typeAssert (tyForm k v) 88 85 true).run Try.prog w = .ok (.tuple #[zeroTy, .bool false]) w := by
  unfold tyForm
  rw [h]
  simp only [Bool.false_eq_true, if_false]
  split
  · exact asP1 v w
  · split
    · exact asP2 v w
    · split
      · exact asP4 v w
      · exact asP0 w

set_option maxRecDepth 100000 in
set_option maxHeartbeats 2000000 in
theorem implFormOf (k : Int) (s : ByteArray) (A : Option Addr) (n c : Nat) (w : World) :
    Calls Try.prog 81 #[.agg #[.int .i64 k, .string s, .slice A n c]] w fun e w' => e = .returned (tyForm k (.agg #[.int .i64 k, .string s, .slice A n c])) ∧ Below w.heap.size w w' := by
  have hb : Below w.heap.size w (w.alloc (.cells #[.int .i64 k, .string s, .slice A n c] 35)) := (Below.refl _ _).alloc (Nat.le_refl _) _
  cases h1 : (k == 1) with
  | true =>
    have HF := Lib.hid (tyForm1 (.agg #[.int .i64 k, .string s, .slice A n c]) h1)
    go_enter Try.func81, Try.ntmps81
    go_wp2
    go_ret
    exact ⟨congrArg Ending.returned HF.out.symm, hb⟩
  | false =>
    cases h2 : (k == 2) with
    | true =>
      have HF := Lib.hid (tyForm2 (.agg #[.int .i64 k, .string s, .slice A n c]) h2)
      go_enter Try.func81, Try.ntmps81
      go_wp2
      go_ret
      exact ⟨congrArg Ending.returned HF.out.symm, hb⟩
    | false =>
      cases h3 : (k == 3) with
      | true =>
        have HF := Lib.hid (tyForm3 (.agg #[.int .i64 k, .string s, .slice A n c]) h3)
        go_enter Try.func81, Try.ntmps81
        go_wp2
        go_ret
        exact ⟨congrArg Ending.returned HF.out.symm, hb⟩
      | false =>
        cases h4 : (k == 4) with
        | true =>
          have HF := Lib.hid (tyForm4 (.agg #[.int .i64 k, .string s, .slice A n c]) h4)
          go_enter Try.func81, Try.ntmps81
          go_wp2
          go_ret
          exact ⟨congrArg Ending.returned HF.out.symm, hb⟩
        | false =>
          have HF := Lib.hid (tyForm0 (.agg #[.int .i64 k, .string s, .slice A n c]) h1 h2 h3 h4)
          go_enter Try.func81, Try.ntmps81
          go_wp2
          go_ret
          exact ⟨congrArg Ending.returned HF.out.symm, hb⟩

set_option maxRecDepth 100000 in
set_option maxHeartbeats 2000000 in
theorem implIsVar (k : Int) (s : ByteArray) (A : Option Addr) (n c : Nat) (w : World) :
    Calls Try.prog 82 #[.agg #[.int .i64 k, .string s, .slice A n c]] w fun e w' => e = .returned (.bool (k == 1)) ∧ Below w.heap.size w w' := by
  have hb : Below w.heap.size w (w.alloc (.cells #[.int .i64 k, .string s, .slice A n c] 35)) := (Below.refl _ _).alloc (Nat.le_refl _) _
  cases h1 : (k == 1) with
  | true =>
    have HF := Lib.hid (tyForm1 (.agg #[.int .i64 k, .string s, .slice A n c]) h1)
    have hA := asV1 (.agg #[.int .i64 k, .string s, .slice A n c])
    clear h1
    go_enter Try.func82, Try.ntmps82
    go_wp2_with fail
    refine (implFormOf _ _ _ _ _ _).mono ?_
    rintro e w1 ⟨rfl, hb1⟩
    rw [HF.out]
    have hb2 := hb.trans (hb1.mono (by simp))
    have hs := hb2.size
    go_wp2
    go_ret
    exact ⟨rfl, hb2.alloc hs _⟩
  | false =>
    have hA := as_var (.agg #[.int .i64 k, .string s, .slice A n c]) h1
    clear h1
    go_enter Try.func82, Try.ntmps82
    go_wp2_with fail
    refine (implFormOf _ _ _ _ _ _).mono ?_
    rintro e w1 ⟨rfl, hb1⟩
    have hb2 := hb.trans (hb1.mono (by simp))
    have hs := hb2.size
    go_wp2
    go_ret
    exact ⟨rfl, hb2.alloc hs _⟩
end Go.Proofs.Ytbcfeoobhemdcaa
namespace Go.Proofs.Ytbcfeoobhemdcaa
open Go.RowKit

theorem name_low {s : ByteArray} {k : Nat} (h : k < s.size) (hc : goodAt k s[k] = true) : Utf8.decode s k = (s[k].toNat, 1) :=
  decode_ascii s k h (by unfold goodAt letterR digitR at hc; simp at hc; omega)
theorem name_bad {s : ByteArray} {k : Nat} (h : k < s.size) (hc : goodAt k s[k] = false) : letterR ((Utf8.decode s k).1 : Int) = false ∧ (k = 0 ∨ digitR ((Utf8.decode s k).1 : Int) = false) := by
  by_cases ha : s[k].toNat < 128
  · rw [decode_ascii s k h ha]
    simp only [goodAt, Bool.or_eq_false_iff, Bool.and_eq_false_iff] at hc
    refine ⟨hc.1, ?_⟩
    rcases hc.2 with h0 | h0
    · left; simpa using h0
    · right; exact h0
  · have := (decode_high s k h (by omega)).1
    unfold letterR digitR
    simp
    omega

set_option maxRecDepth 100000 in
set_option maxHeartbeats 2000000 in
theorem implName (s : ByteArray) (w : World) (hs : s.size ≤ 9223372036854775807) : Calls Try.prog 123 #[.string s] w fun e w' => e = .returned (.bool (okName s)) ∧ Below w.heap.size w w' := by
  by_cases h1 : 1 ≤ s.size ∧ s.size ≤ 8
  · have hall := @name_ok s h1
    have HA := Lib.hid hall
    clear hall
    obtain ⟨h2, h3⟩ := h1
    go_enter Try.func123, Try.ntmps123
    go_wp2
    go_loopw [] (fun wr => ∃ k : Nat, k ≤ s.size ∧ goods s k = true ∧ wr = w.iter s k) (fun wr => s.size - wr.iterPos w.heap.size)
    case atStart => exact ⟨0, Nat.zero_le _, rfl, rfl⟩
    case round =>
      obtain ⟨k, hk, ha, rfl⟩ := hrel
      have HT := Lib.hid ha
      clear ha
      have hb : ∀ j, Below w.heap.size w (w.iter s j) := fun j => (Below.refl _ _).alloc (Nat.le_refl _) _
      by_cases hlt : k < s.size
      · cases hc : goodAt k s[k] with
        | true =>
          have hst := goods_succ hlt
          rw [HT.out, hc] at hst
          have hd := name_low hlt hc
          have hnx := fun ty => run_next_any (P := Try.prog) w s k ty hlt
          rw [hd] at hnx
          have HS := Lib.hid hst
          clear hst hd
          cases hl : letterR (s[k].toNat : Int) with
          | true =>
            have HL := Lib.hid hl
            clear hc hl
            go_wp2_with fail
            refine (letterIs _ _).mono ?_
            rintro e w1 ⟨rfl, rfl⟩
            rw [HL.out]
            go_wp2
            go_roundw
            case rel => exact ⟨k + 1, by omega, HS.out, rfl⟩
            case measure => simp; omega
          | false =>
            rw [goodAt, hl, Bool.false_or, Bool.and_eq_true] at hc
            have q0 : ((k : Int) == 0) = false := by have := hc.1; simp at this ⊢; omega
            have HL := Lib.hid hl
            have HC := Lib.hid hc.2
            clear hc hl
            go_wp2_with fail
            refine (letterIs _ _).mono ?_
            rintro e w1 ⟨rfl, rfl⟩
            rw [HL.out]
            go_wp2_with fail
            refine (digitIs _ _).mono ?_
            rintro e w1 ⟨rfl, rfl⟩
            rw [HC.out]
            go_wp2
            go_roundw
            case rel => exact ⟨k + 1, by omega, HS.out, rfl⟩
            case measure => simp; omega
        | false =>
          have hno := goods_bad hlt hc
          have hd := name_bad hlt hc
          have hnx := fun ty => run_next_any (P := Try.prog) w s k ty hlt
          obtain ⟨hd1, hd2⟩ := hd
          have HN := Lib.hid hno
          have HD := Lib.hid hd1
          clear hno hd1 hc
          by_cases h0 : k = 0
          · clear hd2
            subst h0
            go_wp2_with fail
            refine (letterIs _ _).mono ?_
            rintro e w1 ⟨rfl, rfl⟩
            rw [HD.out]
            go_wp2
            go_ret
            exact ⟨congrArg (fun b => Ending.returned (.bool b)) HN.out.symm, hb _⟩
          · have hd3 := hd2.resolve_left h0
            have q0 : ((k : Int) == 0) = false := by simp; omega
            have HE := Lib.hid hd3
            clear hd2 hd3
            go_wp2_with fail
            refine (letterIs _ _).mono ?_
            rintro e w1 ⟨rfl, rfl⟩
            rw [HD.out]
            go_wp2_with fail
            refine (digitIs _ _).mono ?_
            rintro e w1 ⟨rfl, rfl⟩
            rw [HE.out]
            go_wp2
            go_ret
            exact ⟨congrArg (fun b => Ending.returned (.bool b)) HN.out.symm, hb _⟩
      · have hkl : k = s.size := by omega
        subst hkl
        have hok := HA.out HT.out
        have HK := Lib.hid hok
        clear hok
        have hnx := fun ty => run_next_end (P := Try.prog) w s s.size ty (Nat.lt_irrefl _)
        go_wp2_with fail
        refine (implReserved s _ hs).mono ?_
        rintro e w1 ⟨rfl, hb1⟩
        have hb2 := (hb s.size).trans (hb1.mono (hb s.size).size)
        go_wp2
        go_ret
        exact ⟨congrArg (fun b => Ending.returned (.bool b)) HK.out.symm, hb2⟩
  · have hno := name_size h1
    have HN := Lib.hid hno
    clear hno
    by_cases h2 : s.size < 1
    · go_enter Try.func123, Try.ntmps123
      go_wp2
      go_ret
      exact ⟨congrArg (fun b => Ending.returned (.bool b)) HN.out.symm, Below.refl _ _⟩
    · have h3 : 8 < s.size := by omega
      clear h1
      go_enter Try.func123, Try.ntmps123
      go_wp2
      go_ret
      exact ⟨congrArg (fun b => Ending.returned (.bool b)) HN.out.symm, Below.refl _ _⟩
end Go.Proofs.Ytbcfeoobhemdcaa
namespace Go.Proofs.Ytbcfeoobhemdcaa
open Go.RowKit

def EqX (N : Nat) : Prop := ∀ (x : SX) (A B : Option Addr) (c d : Nat) (w : World), x.nodes ≤ N → x.wt ≤ 1048576 → ListAt w (Lt w.heap.size) A x.list → ListAt w (Lt w.heap.size) B x.list →
  Calls Try.prog 39 #[.agg #[.string x.atom, .slice A x.list.length c], .agg #[.string x.atom, .slice B x.list.length d]] w fun e w' => e = .returned (.bool true) ∧ Below w.heap.size w w'
def EqL (N : Nat) : Prop := ∀ (l : List SX) (A B : Option Addr) (c d : Nat) (w : World), SX.nodesL l ≤ N → SX.wtL l ≤ 1048576 → ListAt w (Lt w.heap.size) A l → ListAt w (Lt w.heap.size) B l →
  Calls Try.prog 87 #[.slice A l.length c, .slice B l.length d] w fun e w' => e = .returned (.bool true) ∧ Below w.heap.size w w'

set_option maxRecDepth 100000 in
set_option maxHeartbeats 1000000 in
theorem eqX_step (N : Nat) (ih : EqL N) : EqX (N + 1) := by
  intro x A B c d w hn hw hA hB
  have hn' : SX.nodesL x.list ≤ N := by rw [SX.nodes_eq] at hn; omega
  have hw' : SX.wtL x.list ≤ 1048576 := by rw [SX.wt_eq] at hw; omega
  have hb2 : Below w.heap.size w ((w.alloc (.cells #[.string x.atom, .slice A x.list.length c] 26)).alloc (.cells #[.string x.atom, .slice B x.list.length d] 26)) :=
    ((Below.refl _ _).alloc (Nat.le_refl _) _).alloc (by simp) _
  have HA := Lib.hid (hA.grow hb2)
  have HB := Lib.hid (hB.grow hb2)
  clear hn hw hA hB
  go_enter Try.func39, Try.ntmps39
  go_wp2_with fail
  refine (ih x.list A B c d _ hn' hw' HA.out HB.out).mono ?_
  rintro e w1 ⟨rfl, hb1⟩
  have hb : Below w.heap.size w w1 := hb2.trans (hb1.mono hb2.size)
  go_wp2
  go_ret
  exact ⟨rfl, hb⟩

set_option maxRecDepth 100000 in
set_option maxHeartbeats 1000000 in
theorem eqL_step (N : Nat) (ih : EqX N) : EqL N := by
  intro l A B c d w hn hw hA hB
  have hlen := SX.wtL_length l
  have HA := Lib.hid hA
  have HB := Lib.hid hB
  have HN := Lib.hid hn
  have HW := Lib.hid hw
  clear hn hA hB
  go_enter Try.func87, Try.ntmps87
  go_wp2
  go_loopw [5] (fun iv wr => ∃ k : Nat, k ≤ l.length ∧ iv = .int .i64 k ∧ Below w.heap.size w wr) (fun iv _ => l.length - (Go.RowKit.intOf iv).toNat)
  case atStart => exact ⟨0, Nat.zero_le _, rfl, Below.refl _ _⟩
  case round =>
    obtain ⟨k, hk, rfl, hb⟩ := hrel
    by_cases hlt : k < l.length
    · obtain ⟨b, o, A', c', rfl, hP, hc0, hc1, hl'⟩ := (HA.out.below hb).at_ hlt
      obtain ⟨b2, o2, B', d', rfl, hP2, hd0, hd1, hm'⟩ := (HB.out.below hb).at_ hlt
      have hx := hl'.frame (Q := Lt wr.heap.size) (fun _ h => Nat.lt_of_lt_of_le h hb.size) (fun _ _ _ => rfl)
      have hy := hm'.frame (Q := Lt wr.heap.size) (fun _ h => Nat.lt_of_lt_of_le h hb.size) (fun _ _ _ => rfl)
      have hnx := Nat.le_trans (SX.nodesL_at l k hlt) HN.out
      have hwx : l[k].wt ≤ 1048576 := by have := SX.wtL_at l k hlt; omega
      have cE : ∀ dr os, Calls Try.prog 39 #[.agg #[.string l[k].atom, .slice A' l[k].list.length c'], .agg #[.string l[k].atom, .slice B' l[k].list.length d']] (Go.Sort.grow (redrawn wr dr) os) fun e w'' => e = .returned (.bool true) ∧ ∃ p : Regrown, w'' = Go.Sort.grow (redrawn wr p.d) p.os :=
        fun dr os => Calls.regrown_of (ih l[k] A' B' c' d' _ hnx hwx (hx.grow (below_regrown wr dr os)) (hy.grow (below_regrown wr dr os)))
      have k0 := cell_regrown hc0
      have k1 := cell_regrown hc1
      have k2 := cell_regrown hd0
      have k3 := cell_regrown hd1
      have hk0 : (0 : Int) ≤ k := by omega
      clear hx hy hl' hm' hnx
      go_wp2
      refine wp_region_quiet_below (by kernel_rfl) (by kernel_rfl) ?_
      repeat (quiet_step (exact cE _ _))
      refine wpQuiet_nil ?_
      intro _ hw'
      obtain ⟨⟨dq, osq⟩, hw''⟩ := hw'
      subst hw''
      have hb3 := hb.trans ((below_regrown wr dq osq).mono hb.size)
      clear cE k0 k1 k2 k3
      go_wp2
      go_roundw
      case rel => exact ⟨k + 1, by omega, by go_num, hb3⟩
      case measure => simp [Go.RowKit.intOf]; omega
    · go_wp2
      go_ret
      exact ⟨rfl, hb⟩

theorem eqAll : ∀ N, EqX N ∧ EqL N
  | 0 => by
    have hx : EqX 0 := fun x A B c d w hn => by rw [SX.nodes_eq] at hn; omega
    exact ⟨hx, eqL_step 0 hx⟩
  | N + 1 => ⟨eqX_step N (eqAll N).2, eqL_step (N + 1) (eqX_step N (eqAll N).2)⟩
theorem eqX (x : SX) (A B : Option Addr) (c d : Nat) (w : World) (hw : x.wt ≤ 1048576) (hA : ListAt w (Lt w.heap.size) A x.list) (hB : ListAt w (Lt w.heap.size) B x.list) :
    Calls Try.prog 39 #[.agg #[.string x.atom, .slice A x.list.length c], .agg #[.string x.atom, .slice B x.list.length d]] w fun e w' => e = .returned (.bool true) ∧ Below w.heap.size w w' :=
  (eqAll x.nodes).1 x A B c d w (Nat.le_refl _) hw hA hB
end Go.Proofs.Ytbcfeoobhemdcaa
namespace Go.Proofs.Ytbcfeoobhemdcaa
open Go.ChangeShapes Go.WideShapes Go.ChangeAt Go.RowKit Go.Deep

/-- The fields lie one behind another. -/
def contig (P : Program) : Nat → Nat → List Field → Prop
  | off, n, [] => off = n
  | off, n, f :: r => f.offset = off ∧ contig P (off + P.cellsOf f.type) n r
/-- A type that is made of types of G alone. -/
def KindOk (P : Program) (G : TypeId → Prop) (t : TypeId) : Prop :=
  P.underlying t = some (.int .i64) ∨ P.underlying t = some .string ∨ P.underlying t = some .bool ∨ (∃ e, P.underlying t = some (.slice e) ∧ G e ∧ 0 < P.cellsOf e) ∨
  (∃ fs : Array Field, P.underlying t = some (.struct fs) ∧ (∀ f ∈ fs.toList, G f.type) ∧ contig P 0 (P.cellsOf t) fs.toList)
/-- The shape of a type's data. -/
def Fits (P : Program) (φ : TypeId → TypeId) : Nat → TypeId → List DV → Prop
  | 0, _, _ => False
  | n + 1, t, ds =>
    (P.underlying t = some (.int .i64) ∧ ∃ z, ds = [.pl (.int .i64 z)]) ∨ (P.underlying t = some .string ∧ ∃ s, ds = [.pl (.string s)]) ∨ (P.underlying t = some .bool ∧ ∃ b, ds = [.pl (.bool b)]) ∨
    (∃ e, P.underlying t = some (.slice e) ∧ ∃ xs, ds = [.row (φ e) (P.cellsOf e) xs] ∧ ∀ x ∈ xs, Fits P φ n e x) ∨
    (∃ fs : Array Field, P.underlying t = some (.struct fs) ∧ ∃ parts : List (List DV), ds = parts.flatten ∧ parts.length = fs.size ∧ ∀ (i : Nat) (f : Field) (p : List DV), fs[i]? = some f → parts[i]? = some p → Fits P φ n f.type p)

theorem RdVs_app {w : World} {Q : Nat → Prop} : ∀ {ds : List DV} {vs : List Value}, RdVs w Q ds vs → ∀ {es : List DV} {us : List Value}, RdVs w Q es us → RdVs w Q (ds ++ es) (vs ++ us)
  | [], vs, h, es, us, h' => by rw [RdVs] at h; subst h; exact h'
  | d :: r, vs, h, es, us, h' => by
    rw [RdVs] at h
    obtain ⟨v, vs', rfl, h1, h2⟩ := h
    rw [List.cons_append, RdVs]
    exact ⟨v, _, rfl, h1, RdVs_app h2 h'⟩
theorem okL_app : ∀ {ds es : List DV}, DV.okL ds → DV.okL es → DV.okL (ds ++ es)
  | [], es, _, h => h
  | d :: r, es, h, h' => by
    rw [DV.okL] at h
    rw [List.cons_append, DV.okL]
    exact ⟨h.1, okL_app h.2 h'⟩
theorem okE_of : ∀ {xs : List (List DV)}, (∀ x ∈ xs, DV.okL x) → DV.okE xs
  | [], _ => by rw [DV.okE]; trivial
  | x :: r, h => by
    rw [DV.okE]
    exact ⟨h x (by simp), okE_of fun y hy => h y (List.mem_cons_of_mem _ hy)⟩
theorem RdVE_of {w : World} {Q : Nat → Prop} {k b : Nat} : ∀ (xs : List (List DV)) (o : Nat), (∀ (j : Nat) (h : j < xs.length), xs[j].length = k ∧ ∃ vs : List Value, RdVs w Q xs[j] vs ∧ ∀ (i : Nat) (v : Value), vs[i]? = some v → w.cell? ⟨b, o + j * k + i, none⟩ = some v) →
    ∃ vs : List Value, RdVE w Q k xs vs ∧ ∀ (i : Nat) (v : Value), vs[i]? = some v → w.cell? ⟨b, o + i, none⟩ = some v
  | [], o, _ => ⟨[], by rw [RdVE], by simp⟩
  | x :: r, o, h => by
    obtain ⟨hk, vs, h1, h2⟩ := h 0 (by simp)
    have hk' : x.length = k := hk
    have h1' : RdVs w Q x vs := h1
    obtain ⟨us, h3, h4⟩ := RdVE_of r (o + k) fun j hj => by
      obtain ⟨hk2, us, g1, g2⟩ := h (j + 1) (by simpa using hj)
      refine ⟨by simpa using hk2, us, by simpa using g1, fun i v hi => ?_⟩
      have := g2 i v hi
      rw [show o + (j + 1) * k + i = o + k + j * k + i by rw [Nat.add_mul]; omega] at this
      exact this
    have hvl : vs.length = k := by rw [RdVs_length h1', hk']
    refine ⟨vs ++ us, by rw [RdVE]; exact ⟨vs, us, rfl, hk', h1', h3⟩, fun i v hi => ?_⟩
    by_cases hlt : i < vs.length
    · rw [List.getElem?_append_left hlt] at hi
      have := h2 i v hi
      rw [Nat.zero_mul, Nat.add_zero] at this
      exact this
    · rw [List.getElem?_append_right (by omega)] at hi
      have := h4 _ v hi
      rw [show o + k + (i - vs.length) = o + i by omega] at this
      exact this

section
variable {H : Type} {enc : TypeId × Value → H} {P : Program} {w : World} {base : Nat} {spare : Nat → Bool} {held : Bool} {φ : TypeId → TypeId} {G : TypeId → Prop}

theorem fits_fields {m n : Nat} {cs : List Value} (ih : ∀ (t : TypeId) (cs : List Value) (y : DataW H × List MemPlace), G t → DataW.trod enc P w base spare held m t cs = some y → ∃ ds, Fits P φ n t ds ∧ RdVs w (Und w.heap.size) ds cs ∧ DV.okL ds) :
    ∀ (fl : List Field) (off : Nat), contig P off cs.length fl → (∀ f ∈ fl, G f.type ∧ ∃ y, DataW.trod enc P w base spare held m f.type ((cs.drop f.offset).take (P.cellsOf f.type)) = some y) →
      ∃ parts : List (List DV), parts.length = fl.length ∧ (∀ (i : Nat) (f : Field) (p : List DV), fl[i]? = some f → parts[i]? = some p → Fits P φ n f.type p) ∧ RdVs w (Und w.heap.size) parts.flatten (cs.drop off) ∧ DV.okL parts.flatten
  | [], off, hc, _ => by
    rw [contig] at hc
    subst hc
    exact ⟨[], rfl, by simp, by rw [List.drop_length]; rfl, by rw [List.flatten_nil, DV.okL]; trivial⟩
  | f :: r, off, hc, hf => by
    rw [contig] at hc
    obtain ⟨rfl, hc⟩ := hc
    obtain ⟨hg, y, hy⟩ := hf f (by simp)
    obtain ⟨ds, d1, d2, d3⟩ := ih _ _ _ hg hy
    obtain ⟨parts, p1, p2, p3, p4⟩ := fits_fields ih r _ hc fun g hg => hf g (List.mem_cons_of_mem _ hg)
    refine ⟨ds :: parts, by simp [p1], fun i g p hi hp => ?_, ?_, ?_⟩
    · match i, hi, hp with
      | 0, hi, hp =>
        simp at hi hp
        subst hi hp
        exact d1
      | i + 1, hi, hp => exact p2 i g p (by simpa using hi) (by simpa using hp)
    · rw [List.flatten_cons]
      have h := RdVs_app d2 p3
      rw [← List.drop_drop, List.take_append_drop] at h
      exact h
    · rw [List.flatten_cons]; exact okL_app d3 p4

theorem trod_fits (hG : ∀ t, G t → KindOk P G t) : ∀ (F fuel : Nat) (t : TypeId) (cs : List Value) (y : DataW H × List MemPlace), fuel ≤ F → G t → DataW.trod enc P w base spare held fuel t cs = some y →
    ∃ ds, Fits P φ F t ds ∧ RdVs w (Und w.heap.size) ds cs ∧ DV.okL ds := by
  intro F
  induction F with
  | zero =>
    intro fuel t cs y hf _ h
    obtain rfl : fuel = 0 := by omega
    simp [DataW.trod] at h
  | succ F ih =>
    intro fuel t cs y hf hg h
    rcases hG t hg with hk | hk | hk | ⟨e, hk, he, hpos⟩ | ⟨fs, hk, hfs, hct⟩
    · obtain ⟨z, rfl, _, hz⟩ := DataW.trod_int hk h
      refine ⟨[.pl (.int .i64 z)], by rw [Fits]; exact .inl ⟨hk, z, rfl⟩, by rw [RdVs]; exact ⟨_, [], rfl, by rw [RdV], by rw [RdVs]⟩, ?_⟩
      simp only [DV.okL, DV.ok, uok, and_true]
      have := hz
      simp [Lit.wf] at this
      exact ⟨this.1, this.2⟩
    · obtain ⟨s, rfl, _, hs⟩ := DataW.trod_string hk h
      refine ⟨[.pl (.string s)], by rw [Fits]; exact .inr (.inl ⟨hk, s, rfl⟩), by rw [RdVs]; exact ⟨_, [], rfl, by rw [RdV], by rw [RdVs]⟩, ?_⟩
      simp only [DV.okL, DV.ok, uok, and_true]
      unfold maxLen at hs; omega
    · obtain ⟨b, rfl, _⟩ := DataW.trod_bool hk h
      refine ⟨[.pl (.bool b)], by rw [Fits]; exact .inr (.inr (.inl ⟨hk, b, rfl⟩)), by rw [RdVs]; exact ⟨_, [], rfl, by rw [RdV], by rw [RdVs]⟩, ?_⟩
      simp only [DV.okL, DV.ok, uok, and_true]
    · rcases DataW.trod_slice hk h with ⟨rfl, _⟩ | ⟨a, len, cap, elems, rest, m, rfl, rfl, _, _, hlc, hcm, hel, hes, _, _⟩
      · refine ⟨[.row (φ e) (P.cellsOf e) []], by rw [Fits]; exact .inr (.inr (.inr (.inl ⟨e, hk, [], rfl, by simp⟩))), by rw [RdVs]; exact ⟨_, [], rfl, RdV_row.2 ⟨none, 0, rfl, Nat.le_refl _, by omega, .inl rfl⟩, by rw [RdVs]⟩, ?_⟩
        simp [DV.okL, DV.ok, DV.okE]
      · have each : ∀ i, i < len → ∃ ds, Fits P φ F e ds ∧ DV.okL ds ∧ ds.length = P.cellsOf e ∧ ∃ vs : List Value, RdVs w (Und w.heap.size) ds vs ∧ ∀ j, j < P.cellsOf e → w.cell? ((a.add (i * P.cellsOf e)).add j) = vs[j]? := by
          intro i hi
          have h2 := hes i hi
          rw [List.getElem?_eq_getElem (by omega)] at h2
          obtain ⟨cs', hc, ht⟩ := Option.bind_eq_some_iff.1 h2
          obtain ⟨ds, d1, d2, d3⟩ := ih m e cs' _ (by omega) he ht
          obtain ⟨_, hl, hat⟩ := World.cells?_some hc
          exact ⟨ds, d1, d3, by rw [← RdVs_length d2, hl], cs', d2, hat⟩
        obtain ⟨f, hf2⟩ := choose_lt each
        have hxl : ((List.range len).map f).length = len := by simp
        refine ⟨[.row (φ e) (P.cellsOf e) ((List.range len).map f)], by
          rw [Fits]
          refine .inr (.inr (.inr (.inl ⟨e, hk, _, rfl, fun x hx => ?_⟩)))
          obtain ⟨i, hi, rfl⟩ := List.mem_map.1 hx
          exact (hf2 i (by simpa using hi)).1, ?_, ?_⟩
        · rw [RdVs]
          refine ⟨_, [], rfl, RdV_row.2 ⟨some a, cap, by rw [hxl], by rw [hxl]; exact hlc, by unfold maxLen at hcm; omega, ?_⟩, by rw [RdVs]⟩
          by_cases hz : len = 0
          · exact .inl (by rw [hz]; rfl)
          · obtain ⟨b, o, spot⟩ := a
            obtain ⟨_, _, hl0, vs0, hr0, hc0⟩ := hf2 0 (by omega)
            have hv0 : 0 < vs0.length := by rw [RdVs_length hr0, hl0]; exact hpos
            have c00 := hc0 0 hpos
            rw [List.getElem?_eq_getElem hv0] at c00
            have hspot : spot = none := by simpa [Addr.add] using World.cell?_spot c00
            subst hspot
            have hb : b < w.heap.size := by
              have := World.block_lt_of_cell? w _ c00
              simpa [Addr.add] using this
            obtain ⟨vs, h1, h2⟩ := RdVE_of (w := w) (Q := Und w.heap.size) (k := P.cellsOf e) (b := b) ((List.range len).map f) o fun j hj => by
              have hjl : j < len := by simpa using hj
              obtain ⟨_, _, hlj, vsj, hrj, hcj⟩ := hf2 j hjl
              simp only [List.getElem_map, List.getElem_range]
              refine ⟨hlj, vsj, hrj, fun i v hi => ?_⟩
              have hil : i < P.cellsOf e := by
                rw [← hlj, ← RdVs_length hrj]
                exact (List.getElem?_eq_some_iff.1 hi).1
              have := hcj i hil
              rw [Go.WideShapes.add_plain, Go.WideShapes.add_plain, hi] at this
              exact this
            exact .inr ⟨b, o, rfl, hb, vs, h1, h2⟩
        · simp only [DV.okL, DV.ok, and_true]
          refine ⟨by rw [hxl]; unfold maxLen at hcm; omega, okE_of fun x hx => ?_⟩
          obtain ⟨i, hi, rfl⟩ := List.mem_map.1 hx
          exact (hf2 i (by simpa using hi)).2.1
    · obtain ⟨xs, m, rfl, _, hcl, hxl, hat⟩ := DataW.trod_struct hk h
      rw [← hcl] at hct
      obtain ⟨parts, p1, p2, p3, p4⟩ := fits_fields (φ := φ) (G := G) (m := m) (n := F) (cs := cs) (fun t cs y hg' h' => ih m t cs y (by omega) hg' h') fs.toList 0 hct fun f hf => by
        refine ⟨hfs f hf, ?_⟩
        obtain ⟨i, hi, rfl⟩ := List.mem_iff_getElem.1 hf
        have hi' : i < fs.size := by simpa using hi
        refine ⟨xs[i]'(by omega), ?_⟩
        rw [hat i _ (by simp [hi']), List.getElem?_eq_getElem (by omega)]
      refine ⟨parts.flatten, ?_, by simpa using p3, p4⟩
      rw [Fits]
      exact .inr (.inr (.inr (.inr ⟨fs, hk, parts, rfl, by simpa using p1, fun i f p hi hp => p2 i f p (by simpa using hi) hp⟩)))
end
end Go.Proofs.Ytbcfeoobhemdcaa
namespace Go.Proofs.Ytbcfeoobhemdcaa
open Go.ChangeShapes Go.WideShapes Go.ChangeAt Go.RowKit Go.Deep

/-- The laws' types by the program's. -/
def toImplT (t : TypeId) : TypeId := if t = 56 then 35 else t
def typeG (t : TypeId) : Prop := t = 56 ∨ t = 54 ∨ t = 3 ∨ t = 9
theorem typeG_ok : ∀ t, typeG t → KindOk Try.prog typeG t := by
  rintro t (rfl | rfl | rfl | rfl)
  · refine .inr (.inr (.inr (.inr ⟨_, Try.underlying56, ?_, ?_⟩)))
    · intro f hf
      simp only [List.mem_cons, List.not_mem_nil, or_false] at hf
      rcases hf with rfl | rfl | rfl
      · exact .inr (.inr (.inl rfl))
      · exact .inr (.inr (.inr rfl))
      · exact .inr (.inl rfl)
    · simp only [contig]
      exact ⟨trivial, by kernel_rfl, by kernel_rfl, by kernel_rfl⟩
  · exact .inr (.inr (.inr (.inl ⟨_, Try.underlying54, .inl rfl, by rw [show Try.prog.cellsOf 56 = 3 by kernel_rfl]; decide⟩)))
  · exact .inl Try.underlying3
  · exact .inr (.inl Try.underlying9)

/-- Only one of a type's five shapes is its own. -/
theorem fits_int {φ : TypeId → TypeId} {P : Program} {n : Nat} {t : TypeId} {ds : List DV} (hu : P.underlying t = some (.int .i64)) (h : Fits P φ n t ds) : ∃ z, ds = [.pl (.int .i64 z)] := by
  cases n with
  | zero => rw [Fits] at h; exact h.elim
  | succ n =>
    rw [Fits, hu] at h
    rcases h with ⟨_, h⟩ | ⟨h, _⟩ | ⟨h, _⟩ | ⟨_, h, _⟩ | ⟨_, h, _⟩
    · exact h
    all_goals cases h
theorem fits_string {φ : TypeId → TypeId} {P : Program} {n : Nat} {t : TypeId} {ds : List DV} (hu : P.underlying t = some .string) (h : Fits P φ n t ds) : ∃ s, ds = [.pl (.string s)] := by
  cases n with
  | zero => rw [Fits] at h; exact h.elim
  | succ n =>
    rw [Fits, hu] at h
    rcases h with ⟨h, _⟩ | ⟨_, h⟩ | ⟨h, _⟩ | ⟨_, h, _⟩ | ⟨_, h, _⟩
    · cases h
    · exact h
    all_goals cases h
theorem fits_bool {φ : TypeId → TypeId} {P : Program} {n : Nat} {t : TypeId} {ds : List DV} (hu : P.underlying t = some .bool) (h : Fits P φ n t ds) : ∃ b, ds = [.pl (.bool b)] := by
  cases n with
  | zero => rw [Fits] at h; exact h.elim
  | succ n =>
    rw [Fits, hu] at h
    rcases h with ⟨h, _⟩ | ⟨h, _⟩ | ⟨_, h⟩ | ⟨_, h, _⟩ | ⟨_, h, _⟩
    · cases h
    · cases h
    · exact h
    all_goals cases h
theorem fits_slice {φ : TypeId → TypeId} {P : Program} {n : Nat} {t e : TypeId} {ds : List DV} (hu : P.underlying t = some (.slice e)) (h : Fits P φ n t ds) : ∃ (m : Nat) (xs : List (List DV)), n = m + 1 ∧ ds = [.row (φ e) (P.cellsOf e) xs] ∧ ∀ x ∈ xs, Fits P φ m e x := by
  cases n with
  | zero => rw [Fits] at h; exact h.elim
  | succ n =>
    rw [Fits, hu] at h
    rcases h with ⟨h, _⟩ | ⟨h, _⟩ | ⟨h, _⟩ | ⟨e', h, xs, h1, h2⟩ | ⟨_, h, _⟩
    · cases h
    · cases h
    · cases h
    · injection h with h; injection h with h; subst h; exact ⟨n, xs, rfl, h1, h2⟩
    · cases h
theorem fits_struct {φ : TypeId → TypeId} {P : Program} {n : Nat} {t : TypeId} {fs : Array Field} {ds : List DV} (hu : P.underlying t = some (.struct fs)) (h : Fits P φ n t ds) : ∃ (m : Nat) (parts : List (List DV)), n = m + 1 ∧ ds = parts.flatten ∧ parts.length = fs.size ∧ ∀ (i : Nat) (f : Field) (p : List DV), fs[i]? = some f → parts[i]? = some p → Fits P φ m f.type p := by
  cases n with
  | zero => rw [Fits] at h; exact h.elim
  | succ n =>
    rw [Fits, hu] at h
    rcases h with ⟨h, _⟩ | ⟨h, _⟩ | ⟨h, _⟩ | ⟨_, h, _⟩ | ⟨fs', h, parts, h1, h2, h3⟩
    · cases h
    · cases h
    · cases h
    · cases h
    · injection h with h; injection h with h; subst h; exact ⟨n, parts, rfl, h1, h2, h3⟩
/-- Each of these is one of those: all of them are. -/
theorem list_of {α β : Type} (f : α → β) : ∀ (l : List β), (∀ x ∈ l, ∃ a, x = f a) → ∃ l' : List α, l = l'.map f
  | [], _ => ⟨[], rfl⟩
  | x :: r, h => by
    obtain ⟨a, rfl⟩ := h x (by simp)
    obtain ⟨l', rfl⟩ := list_of f r fun y hy => h y (List.mem_cons_of_mem _ hy)
    exact ⟨a :: l', rfl⟩

theorem cellsOf_Type : Try.prog.cellsOf 56 = 3 := by kernel_rfl
theorem fits_Type : ∀ (N n : Nat) (ds : List DV), n ≤ N → Fits Try.prog toImplT n 56 ds → ∃ x : TypeX, ds = x.cells
  | 0, n, ds, hn, h => by
    obtain rfl : n = 0 := by omega
    rw [Fits] at h; exact h.elim
  | N + 1, n, ds, hn, h => by
    obtain ⟨m, parts, rfl, rfl, hl, hp⟩ := fits_struct Try.underlying56 h
    match parts, hl with
    | [p0, p1, p2], _ =>
      obtain ⟨z, rfl⟩ := fits_int Try.underlying3 (hp 0 _ p0 rfl rfl)
      obtain ⟨s, rfl⟩ := fits_string Try.underlying9 (hp 1 _ p1 rfl rfl)
      obtain ⟨m', xs, rfl, rfl, hx⟩ := fits_slice Try.underlying54 (hp 2 _ p2 rfl rfl)
      obtain ⟨l, rfl⟩ := list_of TypeX.cells xs fun y hy => fits_Type N m' y (by omega) (hx y hy)
      exact ⟨.mk z s l, by rw [TypeX.cells, TypeX.rows_map, cellsOf_Type]; rfl⟩

theorem type_arg {H : Type} {enc : TypeId × Value → H} {w : World} {base : Nat} {spare : Nat → Bool} {held : Bool} {fuel : Nat} {cs : List Value} {y : DataW H × List MemPlace} (h : DataW.trod enc Try.prog w base spare held fuel 56 cs = some y) :
    ∃ x : TypeX, TypeAt w (Und w.heap.size) x (.agg cs.toArray) ∧ DV.okL x.cells := by
  obtain ⟨ds, h1, h2, h3⟩ := trod_fits (φ := toImplT) typeG_ok fuel fuel _ _ _ (Nat.le_refl _) (.inl rfl) h
  obtain ⟨x, rfl⟩ := fits_Type fuel fuel ds (Nat.le_refl _) h1
  exact ⟨x, TypeAt.of_reads h2, h3⟩
end Go.Proofs.Ytbcfeoobhemdcaa
namespace Go.Proofs.Ytbcfeoobhemdcaa
open Go.RowKit Go.Lib

mutual
/-- The cells of a value. -/
def SX.cells : SX → List DV
  | .mk atom list => [.pl (.string atom), .row 26 2 (SX.rows list)]
def SX.rows : List SX → List (List DV)
  | [] => []
  | x :: r => x.cells :: SX.rows r
end
theorem SX.cells_eq (x : SX) : x.cells = [.pl (.string x.atom), .row 26 2 (SX.rows x.list)] := by cases x with | mk xatom xlist => rw [SX.cells]; rfl
theorem SX.rows_map : ∀ l : List SX, SX.rows l = l.map SX.cells
  | [] => by rw [SX.rows]; rfl
  | x :: r => by rw [SX.rows, SX.rows_map r]; rfl
theorem SX.rows_length (l : List SX) : (SX.rows l).length = l.length := by rw [SX.rows_map, List.length_map]
theorem SX.rows_at (l : List SX) (j : Nat) (h : j < l.length) (h' : j < (SX.rows l).length) : (SX.rows l)[j] = l[j].cells := by simp [SX.rows_map]
theorem SX.rows_take (l : List SX) (j : Nat) : SX.rows (l.take j) = (SX.rows l).take j := by simp [SX.rows_map, List.map_take]
theorem SX.rows_snoc (l : List SX) (x : SX) : SX.rows (l ++ [x]) = SX.rows l ++ [x.cells] := by simp [SX.rows_map]
theorem SX.cells_length (x : SX) : x.cells.length = 2 := by rw [SX.cells_eq]; rfl
/-- The slice at A reads as this list. -/
def SxRow (w : World) (P : Nat → Prop) (A : Option Addr) (c : Nat) (l : List SX) : Prop := RdV w P (.row 26 2 (SX.rows l)) (.slice A l.length c)
theorem SxRow.frame {w w' : World} {P Q : Nat → Prop} {A : Option Addr} {c : Nat} {l : List SX} (h : SxRow w P A c l) (hPQ : ∀ b, P b → Q b) (hk : ∀ b o, P b → w'.cell? ⟨b, o, none⟩ = w.cell? ⟨b, o, none⟩) : SxRow w' Q A c l := RdV_frame hPQ hk _ h
theorem SxRow.grow {w w' : World} {A : Option Addr} {c : Nat} {l : List SX} (h : SxRow w (Und w.heap.size) A c l) (hb : Below w.heap.size w w') : SxRow w' (Und w'.heap.size) A c l := RdV.grow h hb
theorem SxRow.of_read {w : World} {P : Nat → Prop} {l : List SX} {v : Value} (h : RdV w P (.row 26 2 (SX.rows l)) v) : ∃ A c, v = .slice A l.length c ∧ SxRow w P A c l := by
  obtain ⟨A, c, rfl, _, _⟩ := h.shape
  rw [SX.rows_length] at h ⊢
  exact ⟨A, c, rfl, h⟩
theorem SxRow.cap {w : World} {P : Nat → Prop} {A : Option Addr} {c : Nat} {l : List SX} (h : SxRow w P A c l) : l.length ≤ c ∧ c ≤ 9223372036854775807 := by
  obtain ⟨A', c', e, h1, h2⟩ := RdV.shape h
  injection e with _ _ e
  rw [SX.rows_length] at h1
  omega
theorem SxRow.nil (w : World) (P : Nat → Prop) (c : Nat) (A : Option Addr) (hc : c ≤ 9223372036854775807) : SxRow w P A c [] := RdV_row.2 ⟨A, c, by rw [SX.rows_length], by rw [SX.rows_length]; exact Nat.zero_le _, hc, .inl (by rw [SX.rows_map]; rfl)⟩
/-- This value, by value. -/
def SxAt (w : World) (P : Nat → Prop) (x : SX) (v : Value) : Prop := ∃ (A1 : Option Addr) (c1 : Nat), v = .agg #[.string x.atom, .slice A1 x.list.length c1] ∧ SxRow w P A1 c1 x.list
theorem SxAt.of_reads {w : World} {P : Nat → Prop} {x : SX} {vs : List Value} (h : RdVs w P x.cells vs) : SxAt w P x (.agg vs.toArray) := by
  rw [SX.cells_eq] at h
  simp only [RdVs] at h
  obtain ⟨v0, _, rfl, h0, v1, _, rfl, h1, rfl⟩ := h
  rw [RdV_pl] at h0
  subst h0
  obtain ⟨A1, c1, rfl, k1⟩ := SxRow.of_read h1
  exact ⟨A1, c1, rfl, k1⟩
theorem SxAt.frame {w w' : World} {P Q : Nat → Prop} {x : SX} {v : Value} (h : SxAt w P x v) (hPQ : ∀ b, P b → Q b) (hk : ∀ b o, P b → w'.cell? ⟨b, o, none⟩ = w.cell? ⟨b, o, none⟩) : SxAt w' Q x v := by
  obtain ⟨A1, c1, rfl, k1⟩ := h
  exact ⟨A1, c1, rfl, k1.frame hPQ hk⟩
theorem SxAt.grow {w w' : World} {x : SX} {v : Value} (h : SxAt w (Und w.heap.size) x v) (hb : Below w.heap.size w w') : SxAt w' (Und w'.heap.size) x v := h.frame (fun _ h => Nat.lt_of_lt_of_le h hb.size) (fun b o hP => hb.cell (p := ⟨b, o, none⟩) hP)
/-- Where there is an element at j: where it lies, and what it is. -/
theorem SxRow.at_ {w : World} {P : Nat → Prop} {A : Option Addr} {c : Nat} {l : List SX} (h : SxRow w P A c l) {j : Nat} (hj : j < l.length) :
    ∃ (b o : Nat) (A1 : Option Addr) (c1 : Nat), A = some ⟨b, o, none⟩ ∧ P b ∧ w.cell? ⟨b, o + j * 2, none⟩ = some (.string l[j].atom) ∧ w.cell? ⟨b, o + j * 2 + 1, none⟩ = some (.slice A1 l[j].list.length c1) ∧ SxRow w P A1 c1 l[j].list := by
  obtain ⟨b, o, ws, hA, hP, hR, hc⟩ := RdV.at_ h (j := j) (by rw [SX.rows_length]; exact hj)
  rw [SX.rows_at l j hj, SX.cells_eq] at hR
  simp only [RdVs] at hR
  obtain ⟨v0, _, rfl, h0, v1, _, rfl, h1, rfl⟩ := hR
  rw [RdV_pl] at h0
  subst h0
  obtain ⟨A1, c1, rfl, k1⟩ := SxRow.of_read h1
  exact ⟨b, o, A1, c1, hA, hP, hc 0 _ rfl, hc 1 _ rfl, k1⟩
end Go.Proofs.Ytbcfeoobhemdcaa
namespace Go.Proofs.Ytbcfeoobhemdcaa
open Go.RowKit

theorem okAtom_short {s : ByteArray} (h : ¬ (1 ≤ s.size ∧ s.size ≤ 12)) : okAtom s = false := by rw [okAtom, decide_eq_false h, Bool.and_false]
theorem okAtom_all {s : ByteArray} (h : 1 ≤ s.size ∧ s.size ≤ 12) (ha : s.data.toList.all okByte = true) : okAtom s = true := by rw [okAtom, decide_eq_true h, ha]; rfl

set_option maxRecDepth 100000 in
set_option maxHeartbeats 1000000 in
theorem implAtom (s : ByteArray) (w : World) (hs : s.size ≤ 9223372036854775807) : Calls Try.prog 113 #[.string s] w fun e w' => e = .returned (.bool (okAtom s)) ∧ Below w.heap.size w w' := by
  by_cases h1 : 1 ≤ s.size ∧ s.size ≤ 12
  · have hall := @okAtom_all s h1
    have HA := Lib.hid hall
    clear hall
    obtain ⟨h2, h3⟩ := h1
    go_enter Try.func113, Try.ntmps113
    go_wp2
    go_loopw [] (fun wr => ∃ k : Nat, k ≤ s.size ∧ (s.data.toList.take k).all okByte = true ∧ wr = w.iter s k) (fun wr => s.size - wr.iterPos w.heap.size)
    case atStart => exact ⟨0, Nat.zero_le _, rfl, rfl⟩
    case round =>
      obtain ⟨k, hk, ha, rfl⟩ := hrel
      have HT := Lib.hid ha
      clear ha
      have hb : Below w.heap.size w (w.iter s k) := (Below.refl _ _).alloc (Nat.le_refl _) _
      by_cases hlt : k < s.size
      · cases hc : okByte s[k] with
        | true =>
          have hst := all_take_snoc s k hlt
          rw [HT.out, hc] at hst
          have hd := decode_ok hlt hc
          have hnx := fun ty => run_next_any (P := Try.prog) w s k ty hlt
          rw [hd] at hnx
          have ho : okRune (s[k].toNat : Int) = true := by rw [okRune_byte, hc]
          have HS := Lib.hid hst
          have HO := Lib.hid ho
          clear hst hd hc ho
          go_wp2_with fail
          refine (runeIs _ _).mono ?_
          rintro e w1 ⟨rfl, rfl⟩
          rw [HO.out]
          go_wp2
          go_roundw
          case rel => exact ⟨k + 1, by omega, HS.out, rfl⟩
          case measure => simp; omega
        | false =>
          have hno := all_not hlt hc
          have hd := decode_bad hlt hc
          have hnx := fun ty => run_next_any (P := Try.prog) w s k ty hlt
          have hw1 : ∀ j, Below w.heap.size w (w.iter s j) := fun j => (Below.refl _ _).alloc (Nat.le_refl _) _
          have HN := Lib.hid hno
          have HD := Lib.hid hd
          clear hno hd hc
          go_wp2_with fail
          refine (runeIs _ _).mono ?_
          rintro e w1 ⟨rfl, rfl⟩
          rw [HD.out]
          go_wp2
          go_ret
          exact ⟨congrArg (fun b => Ending.returned (.bool b)) HN.out.symm, hw1 _⟩
      · have hkl : k = s.size := by omega
        subst hkl
        have hall : s.data.toList.all okByte = true := by have := HT.out; rw [List.take_of_length_le (by simp)] at this; exact this
        have hok := HA.out hall
        have HK := Lib.hid hok
        clear hok hall
        have hnx := fun ty => run_next_end (P := Try.prog) w s s.size ty (Nat.lt_irrefl _)
        go_wp2
        go_ret
        exact ⟨congrArg (fun b => Ending.returned (.bool b)) HK.out.symm, hb⟩
  · have hno := okAtom_short h1
    have HN := Lib.hid hno
    clear hno
    by_cases h2 : s.size < 1
    · go_enter Try.func113, Try.ntmps113
      go_wp2
      go_ret
      exact ⟨congrArg (fun b => Ending.returned (.bool b)) HN.out.symm, Below.refl _ _⟩
    · have h3 : 12 < s.size := by omega
      clear h1
      go_enter Try.func113, Try.ntmps113
      go_wp2
      go_ret
      exact ⟨congrArg (fun b => Ending.returned (.bool b)) HN.out.symm, Below.refl _ _⟩
end Go.Proofs.Ytbcfeoobhemdcaa
namespace Go.Proofs.Ytbcfeoobhemdcaa
open Go.RowKit Go.Lib

/-- Within both limits and in form. -/
def SX.fits (x : SX) (d m : Nat) : Bool := decide (x.nodes ≤ m) && x.form && decide (x.depth ≤ d)
def SX.fitsL (l : List SX) (d m : Nat) : Bool := decide (SX.nodesL l ≤ m) && SX.formL l && decide (SX.depthL l ≤ d)
theorem SX.fits_iff {x : SX} {d m : Nat} : x.fits d m = true ↔ x.nodes ≤ m ∧ x.form = true ∧ x.depth ≤ d := by
  rw [SX.fits, Bool.and_eq_true, Bool.and_eq_true, decide_eq_true_eq, decide_eq_true_eq, and_assoc]
theorem SX.fitsL_iff {l : List SX} {d m : Nat} : SX.fitsL l d m = true ↔ SX.nodesL l ≤ m ∧ SX.formL l = true ∧ SX.depthL l ≤ d := by
  rw [SX.fitsL, Bool.and_eq_true, Bool.and_eq_true, decide_eq_true_eq, decide_eq_true_eq, and_assoc]
theorem SX.fits_valid (x : SX) : x.fits 14 900 = x.valid := by rw [Bool.eq_iff_iff, SX.fits_iff, SX.valid_iff]
theorem SX.fits_small (x : SX) (d : Nat) : x.fits d 0 = false := by
  rw [← Bool.not_eq_true, SX.fits_iff, SX.nodes_eq]; omega
theorem SX.fits_atom {x : SX} {d m : Nat} (hm : 0 < m) (ha : ¬ x.atom.size = 0) : x.fits d m = (okAtom x.atom && decide (x.list.length = 0)) := by
  rw [Bool.eq_iff_iff, SX.fits_iff, SX.form_eq, SX.depth_eq, if_neg ha, if_neg ha, Bool.and_eq_true, decide_eq_true_eq, SX.nodes_eq]
  constructor
  · rintro ⟨_, h, _⟩; exact h
  · rintro ⟨h1, h2⟩
    rw [List.eq_nil_of_length_eq_zero h2, SX.nodesL]
    exact ⟨by omega, ⟨h1, by simp⟩, Nat.zero_le _⟩
theorem SX.fits_flat {x : SX} {m : Nat} (ha : x.atom.size = 0) : x.fits 0 m = false := by
  rw [← Bool.not_eq_true, SX.fits_iff, SX.depth_eq, if_pos ha]; omega
theorem SX.fits_list {x : SX} {d m : Nat} (ha : x.atom.size = 0) : x.fits (d + 1) (m + 1) = SX.fitsL x.list d m := by
  rw [Bool.eq_iff_iff, SX.fits_iff, SX.fitsL_iff, SX.form_eq, SX.depth_eq, if_pos ha, if_pos ha, SX.nodes_eq]
  constructor
  · rintro ⟨h1, h2, h3⟩; exact ⟨by omega, h2, by omega⟩
  · rintro ⟨h1, h2, h3⟩; exact ⟨by omega, h2, by omega⟩
theorem SX.depthL_at : ∀ (l : List SX) (j : Nat) (h : j < l.length), l[j].depth ≤ SX.depthL l
  | x :: r, 0, _ => by rw [SX.depthL]; simp; omega
  | x :: r, j + 1, h => by
    have := SX.depthL_at r j (by simpa using h)
    rw [SX.depthL]; simp; omega
theorem SX.fitsL_step {l : List SX} {d m j : Nat} (h : j < l.length) (hf : SX.fitsL (l.take j) d m = true) (hx : l[j].fits d (m - SX.nodesL (l.take j)) = true) : SX.fitsL (l.take (j + 1)) d m = true := by
  rw [SX.fitsL_iff] at *
  rw [SX.fits_iff] at hx
  rw [SX.nodesL_take l j h, SX.formL_take l j h, SX.depthL_take l j h, hf.2.1, hx.2.1]
  exact ⟨by omega, rfl, by omega⟩
theorem SX.fitsL_stop {l : List SX} {d m j : Nat} (h : j < l.length) (hf : SX.fitsL (l.take j) d m = true) (hx : l[j].fits d (m - SX.nodesL (l.take j)) = false) : SX.fitsL l d m = false := by
  rw [← Bool.not_eq_true] at *
  intro h1
  refine hx ?_
  rw [SX.fitsL_iff] at *
  rw [SX.fits_iff]
  have h2 := SX.nodesL_take l j h
  have h3 := SX.nodesL_le l (j + 1)
  have h4 := SX.depthL_at l j h
  refine ⟨by omega, ?_, by omega⟩
  cases hc : l[j].form with
  | true => rfl
  | false => rw [SX.formL_false l j h hc] at h1; exact absurd h1.2.1 (by decide)

/-- What the size's function returns. -/
def Sized (x : SX) (d m : Nat) (w : World) (e : Ending) (w' : World) : Prop := (∃ z : Int, e = .returned (.tuple #[.int .i64 z, .bool (x.fits d m)]) ∧ (x.fits d m = true → z = x.nodes)) ∧ Below w.heap.size w w'
theorem Sized.yes {x : SX} {d m : Nat} {w w' : World} {z : Int} (hf : x.fits d m = true) (hz : z = x.nodes) (hb : Below w.heap.size w w') : Sized x d m w (.returned (.tuple #[.int .i64 z, .bool true])) w' :=
  ⟨⟨z, by rw [hf], fun _ => hz⟩, hb⟩
theorem Sized.no {x : SX} {d m : Nat} {w w' : World} {z : Int} (hf : x.fits d m = false) (hb : Below w.heap.size w w') : Sized x d m w (.returned (.tuple #[.int .i64 z, .bool false])) w' :=
  ⟨⟨z, by rw [hf], fun h => by rw [hf] at h; cases h⟩, hb⟩

def VsX (N : Nat) : Prop := ∀ (x : SX) (A : Option Addr) (c d m : Nat) (w : World), x.nodes ≤ N → x.ok → d ≤ 14 → m ≤ 900 → ListAt w (Lt w.heap.size) A x.list →
  Calls Try.prog 67 #[.agg #[.string x.atom, .slice A x.list.length c], .int .i64 d, .int .i64 m] w (Sized x d m w)

set_option maxRecDepth 100000 in
set_option maxHeartbeats 2000000 in
theorem vsX : ∀ N, VsX N
  | 0 => fun x A c d m w hn => by rw [SX.nodes_eq] at hn; omega
  | N + 1 => by
    intro x A c d m w hn hok hd hm hl
    have ih := vsX N
    obtain ⟨hza, hll, hol⟩ := SX.ok_eq x hok
    have hne := SX.nodes_eq x
    have hb0 : Below w.heap.size w (w.alloc (.cells #[.string x.atom, .slice A x.list.length c] 26)) := (Below.refl _ _).alloc (Nat.le_refl _) _
    have HE := Lib.hid hne
    have HL := Lib.hid hl
    have HO := Lib.hid hol
    have HN := Lib.hid hn
    clear hne hl hol hok hn
    by_cases hm0 : m = 0
    · subst hm0
      have hf := SX.fits_small x d
      have HF := Lib.hid hf
      clear hf
      go_enter Try.func67, Try.ntmps67
      go_wp2
      go_ret2
      exact Sized.no HF.out hb0
    · have hm1 : ¬ (m : Int) < 1 := by omega
      by_cases ha : x.atom.size = 0
      · by_cases hd0 : d = 0
        · subst hd0
          have hf := @SX.fits_flat x m ha
          have HF := Lib.hid hf
          clear hf
          rw [empty_of ha] at hb0 ⊢
          clear ha
          go_enter Try.func67, Try.ntmps67
          go_wp2
          go_ret2
          exact Sized.no HF.out hb0
        · obtain ⟨d', rfl⟩ : ∃ d', d = d' + 1 := ⟨d - 1, by omega⟩
          obtain ⟨m', rfl⟩ : ∃ m', m = m' + 1 := ⟨m - 1, by omega⟩
          have hf := @SX.fits_list x d' m' ha
          have hd1 : ¬ ((d' + 1 : Nat) : Int) < 1 := by omega
          have HF := Lib.hid hf
          clear hf
          rw [empty_of ha] at hb0 ⊢
          clear ha
          go_enter Try.func67, Try.ntmps67
          go_wp2
          go_loopw [8, 32] (fun sv iv wr => ∃ k : Nat, k ≤ x.list.length ∧ iv = .int .i64 k ∧ sv = .int .i64 (1 + SX.nodesL (x.list.take k) : Nat) ∧ SX.fitsL (x.list.take k) d' m' = true ∧ Below (w.alloc (.cells #[.string ByteArray.empty, .slice A x.list.length c] 26)).heap.size (w.alloc (.cells #[.string ByteArray.empty, .slice A x.list.length c] 26)) wr) (fun _ iv _ => x.list.length - (Go.RowKit.intOf iv).toNat)
          case atStart => exact ⟨0, Nat.zero_le _, rfl, by simp [SX.nodesL], by rw [List.take_zero, SX.fitsL_iff, SX.nodesL, SX.formL, SX.depthL]; exact ⟨Nat.zero_le _, rfl, Nat.zero_le _⟩, Below.refl _ _⟩
          case round =>
            obtain ⟨k, hk, rfl, rfl, hfk, hb⟩ := hrel
            obtain ⟨b0, b1, hbw⟩ := boxed hb
            have hle := (SX.fitsL_iff.1 hfk).1
            have HK := Lib.hid hfk
            clear hfk
            by_cases hlt : k < x.list.length
            · obtain ⟨b, o, A', c', rfl, hP, hc0, hc1, hl'⟩ := (boxedList HL.out hb).at_ hlt
              have hx : x.list[k].nodes ≤ N := by have := SX.nodesL_at x.list k hlt; have := HE.out; have := HN.out; omega
              have hst := SX.nodesL_take x.list k hlt
              have hsub : (m' : Int) + 1 - (1 + (SX.nodesL (x.list.take k) : Int)) = ((m' - SX.nodesL (x.list.take k) : Nat) : Int) := by omega
              have hbe : Below wr.heap.size wr (wr.alloc (.cells #[.string x.list[k].atom, .slice A' x.list[k].list.length c'] 26)) := (Below.refl _ _).alloc (Nat.le_refl _) _
              have hlg := hl'.grow hbe
              have hyes := @SX.fitsL_step x.list d' m' k hlt HK.out
              have hno := @SX.fitsL_stop x.list d' m' k hlt HK.out
              have HG := Lib.hid hlg
              have HS := Lib.hid hst
              have HX := Lib.hid hl'
              have HU := Lib.hid hsub
              have HY := Lib.hid hyes
              have HNo := Lib.hid hno
              clear hst hl' hsub hlg hyes hno
              go_wp2_with fail
              rw [HU.out]
              refine (ih x.list[k] A' c' d' (m' - SX.nodesL (x.list.take k)) _ hx (SX.okL_at _ HO.out k hlt) (by omega) (by omega) HG.out).mono ?_
              rintro e w1 ⟨⟨z, rfl, hz⟩, hb1⟩
              have hb2 := hb.trans ((hbe.trans (hb1.mono hbe.size)).mono hb.size)
              have hbw2 := hbw.trans ((hbe.trans (hb1.mono hbe.size)).mono hbw.size)
              cases hc : x.list[k].fits d' (m' - SX.nodesL (x.list.take k)) with
              | true =>
                have hz2 := hz hc
                have hnew := HY.out hc
                have hle2 := (SX.fits_iff.1 hc).1
                have HC := Lib.hid hnew
                clear hz hc hnew
                subst hz2
                go_wp2
                go_roundw
                case rel => exact ⟨k + 1, by omega, by go_num, int_of (by rw [HS.out]; omega), HC.out, hb2⟩
                case measure => simp [Go.RowKit.intOf]; omega
              | false =>
                have hnew := HNo.out hc
                have HC := Lib.hid hnew
                clear hz hc hnew
                go_wp2
                go_ret2
                exact Sized.no (HF.out.trans HC.out) hbw2
            · have hkl : k = x.list.length := by omega
              subst hkl
              have ht := HK.out
              rw [List.take_length] at ht hle ⊢
              have HT := Lib.hid ht
              clear ht
              go_wp2
              go_ret2
              exact Sized.yes (HF.out.trans HT.out) (by rw [HE.out]) hbw
      · have hf := @SX.fits_atom x d m (by omega) ha
        have hnem := nonempty_of ha
        have hc0 := (boxed (w := w) (t := 26) (a := x.atom) (A := A) (n := x.list.length) (c := c) (Below.refl _ _)).1
        have hc1 := (boxed (w := w) (t := 26) (a := x.atom) (A := A) (n := x.list.length) (c := c) (Below.refl _ _)).2.1
        have kc0 := cell_regrown hc0
        have kc1 := cell_regrown hc1
        have HF := Lib.hid hf
        clear hf hc0 hc1
        have cM : ∀ d os, Calls Try.prog 113 #[.string x.atom] (Go.Sort.grow (redrawn (w.alloc (.cells #[.string x.atom, .slice A x.list.length c] 26)) d) os) fun e w'' => e = .returned (.bool (okAtom x.atom)) ∧ ∃ p : Regrown, w'' = Go.Sort.grow (redrawn (w.alloc (.cells #[.string x.atom, .slice A x.list.length c] 26)) p.d) p.os := fun d os => Calls.regrown_of (implAtom x.atom _ hza)
        cases hc : okAtom x.atom with
        | true =>
          rw [hc] at cM
          have HC := Lib.hid hc
          clear hc
          by_cases hlz : x.list.length = 0
          · have hq : ((x.list.length : Int) == 0) = true := by rw [hlz]; rfl
            have hfz : x.fits d m = true := by rw [HF.out, HC.out, decide_eq_true hlz]; rfl
            have HZ := Lib.hid hfz
            have hnz : x.nodes = 1 := by rw [HE.out, List.eq_nil_of_length_eq_zero hlz, SX.nodesL]
            have HNZ := Lib.hid hnz
            clear hnz hlz
            clear hfz
            go_enter Try.func67, Try.ntmps67
            go_wp2
            refine wp_region_quiet_below (by kernel_rfl) (by kernel_rfl) ?_
            repeat (go_big_quiet_step (exact cM _ _))
            refine wpQuiet_nil ?_
            intro _ hw'
            obtain ⟨⟨dq, osq⟩, hw''⟩ := hw'
            subst hw''
            have hb3 := hb0.trans ((below_regrown _ dq osq).mono hb0.size)
            clear cM kc0 kc1
            go_wp2
            go_ret2
            exact Sized.yes HZ.out (by rw [HNZ.out]; rfl) hb3
          · have hq : ((x.list.length : Int) == 0) = false := by rw [beq_eq_false_iff_ne]; omega
            have hfz : x.fits d m = false := by rw [HF.out, HC.out, decide_eq_false hlz]; rfl
            have HZ := Lib.hid hfz
            clear hlz
            clear hfz
            go_enter Try.func67, Try.ntmps67
            go_wp2
            refine wp_region_quiet_below (by kernel_rfl) (by kernel_rfl) ?_
            repeat (go_big_quiet_step (exact cM _ _))
            refine wpQuiet_nil ?_
            intro _ hw'
            obtain ⟨⟨dq, osq⟩, hw''⟩ := hw'
            subst hw''
            have hb3 := hb0.trans ((below_regrown _ dq osq).mono hb0.size)
            clear cM kc0 kc1
            go_wp2
            go_ret2
            exact Sized.no HZ.out hb3
        | false =>
          rw [hc] at cM
          have HC := Lib.hid hc
          clear hc
          go_enter Try.func67, Try.ntmps67
          go_wp2
          refine wp_region_quiet_below (by kernel_rfl) (by kernel_rfl) ?_
          repeat (go_big_quiet_step (exact cM _ _))
          refine wpQuiet_nil ?_
          intro _ hw'
          obtain ⟨⟨dq, osq⟩, hw''⟩ := hw'
          subst hw''
          have hb3 := hb0.trans ((below_regrown _ dq osq).mono hb0.size)
          clear cM kc0 kc1
          go_wp2
          go_ret2
          exact Sized.no (by rw [HF.out, HC.out]; rfl) hb3
end Go.Proofs.Ytbcfeoobhemdcaa
namespace Go.Proofs.Ytbcfeoobhemdcaa
open Go.RowKit Go.Lib

set_option maxRecDepth 100000 in
set_option maxHeartbeats 1000000 in
theorem implValid (x : SX) (A : Option Addr) (c : Nat) (w : World) (hok : x.ok) (hl : ListAt w (Lt w.heap.size) A x.list) :
    Calls Try.prog 19 #[.agg #[.string x.atom, .slice A x.list.length c]] w fun e w' => e = .returned (.bool x.valid) ∧ Below w.heap.size w w' := by
  have hb0 : Below w.heap.size w (w.alloc (.cells #[.string x.atom, .slice A x.list.length c] 26)) := (Below.refl _ _).alloc (Nat.le_refl _) _
  have HL := Lib.hid (hl.grow hb0)
  have HV := Lib.hid (SX.fits_valid x)
  clear hl
  go_enter Try.func19, Try.ntmps19
  go_wp2_with fail
  refine (vsX _ x A c 14 900 _ (Nat.le_refl _) hok (by omega) (by omega) HL.out).mono ?_
  rintro e w1 ⟨⟨z, rfl, -⟩, hb1⟩
  have hb2 := hb0.trans (hb1.mono hb0.size)
  go_wp2
  go_ret
  exact ⟨congrArg (fun b => Ending.returned (.bool b)) HV.out, hb2⟩
end Go.Proofs.Ytbcfeoobhemdcaa
namespace Go.Proofs.Ytbcfeoobhemdcaa
open Go.RowKit Go.Lib

theorem SX.dwt_eq (x : SX) : DV.wtL x.cells = x.atom.size + DV.wtE (SX.rows x.list) := by
  rw [SX.cells_eq]
  simp only [DV.wtL, DV.wt, uwt]
  omega
theorem SX.dnodes_eq (x : SX) : DV.nodesL x.cells = DV.nodesE (SX.rows x.list) := by
  rw [SX.cells_eq]
  simp only [DV.nodesL, DV.nodes]
  omega
def SzSExpr (N : Nat) : Prop := ∀ (x : SX) (v : Value) (L : Nat) (w : World), DV.nodesL x.cells ≤ N → DV.okL x.cells → SxAt w (Und w.heap.size) x v → L ≤ 1048576 →
  Calls Try.prog 37 #[v, .int .i64 L] w fun e w' => (e = .returned (.int .i64 (leftV L (DV.wtL x.cells))) ∧ Below w.heap.size w w')
def SzSExprS (N : Nat) : Prop := ∀ (l : List SX) (A : Option Addr) (c L : Nat) (w : World), DV.nodesE (SX.rows l) ≤ N → DV.okE (SX.rows l) → l.length ≤ 9223372036854775807 → SxRow w (Und w.heap.size) A c l → L ≤ 1048576 →
  Calls Try.prog 85 #[.slice A l.length c, .int .i64 L] w fun e w' => (e = .returned (.int .i64 (leftV L (DV.wtE (SX.rows l)))) ∧ Below w.heap.size w w')

set_option maxRecDepth 100000 in
set_option maxHeartbeats 2000000 in
theorem szSExpr_step (N : Nat) (ihSExprS : SzSExprS N) : SzSExpr N := by
  intro x v L w hn hok hv hL
  obtain ⟨A1, c1, rfl, h1⟩ := hv
  have hne := SX.dnodes_eq x
  have hok2 := hok
  rw [SX.cells_eq] at hok2
  simp only [DV.okL, DV.ok, uok] at hok2
  obtain ⟨o0, o1, -⟩ := hok2
  have hw := SX.dwt_eq x
  have hb0 : Below w.heap.size w (w.alloc (.cells #[.string x.atom, .slice A1 x.list.length c1] 46)) := (Below.refl _ _).alloc (Nat.le_refl _) _
  have H1 := Lib.hid (h1.grow hb0)
  have O1 := Lib.hid o1
  have HN := Lib.hid hn
  have HNE := Lib.hid hne
  have HW := Lib.hid hw
  clear hok hw h1 o1 hn hne
  by_cases s1 : x.atom.size ≤ L
  rotate_left
  · have n1 : ((L : Nat) : Int) - ((x.atom.size : Nat) : Int) < 0 := by omega
    go_enter Try.func37, Try.ntmps37
    go_wp2
    go_ret
    exact ⟨ret_int (leftV_no (by have := HW.out; omega)).symm, hb0⟩
  have n1 : ¬ ((L : Nat) : Int) - ((x.atom.size : Nat) : Int) < 0 := by omega
  obtain ⟨q2, e2⟩ : ∃ q : Nat, ((L : Nat) : Int) - ((x.atom.size : Nat) : Int) = ((q : Nat) : Int) := ⟨L - x.atom.size, by omega⟩
  have f2 : q2 + (x.atom.size) = L := by omega
  have E2 := Lib.hid e2
  clear e2
  go_enter Try.func37, Try.ntmps37
  go_wp2_with fail
  rw [E2.out]
  refine (ihSExprS x.list _ _ q2 _ (by have := HN.out; have := HNE.out; omega) O1.out.2 (by have := O1.out.1; rw [SX.rows_length] at this; exact this) H1.out (by omega)).mono ?_
  rintro e w2 ⟨rfl, b2⟩
  have hb2 : Below w.heap.size w w2 := hb0.trans (b2.mono hb0.size)
  by_cases s2 : DV.wtE (SX.rows x.list) ≤ q2
  rotate_left
  · rw [leftV_no (by omega)]
    go_wp2
    go_ret
    exact ⟨ret_int (leftV_no (by have := HW.out; omega)).symm, hb2⟩
  rw [leftV_yes s2]
  have n2 : ¬ ((q2 : Nat) : Int) - ((DV.wtE (SX.rows x.list) : Nat) : Int) < 0 := by omega
  go_wp2
  go_ret
  exact ⟨ret_int (by have := HW.out; rw [leftV_yes (by omega)]; omega), hb2⟩

set_option maxRecDepth 100000 in
set_option maxHeartbeats 2000000 in
theorem szSExprS_step (N : Nat) (ih : SzSExpr N) : SzSExprS (N + 1) := by
  intro l A c L w hn hok hlen hl hL
  have HL := Lib.hid hl
  have HO := Lib.hid hok
  have hwl := wtVE_length (SX.rows l)
  rw [SX.rows_length] at hwl
  have HN := Lib.hid hn
  clear hl hok hn
  by_cases hfst : L < l.length
  · have hnn : (L : Int) - l.length < 0 := by omega
    have h3 : L < DV.wtE (SX.rows l) := by omega
    go_enter Try.func85, Try.ntmps85
    go_wp2
    go_ret
    exact ⟨ret_int (leftV_no h3).symm, Below.refl _ _⟩
  · have hnn : ¬ (L : Int) - l.length < 0 := by omega
    go_enter Try.func85, Try.ntmps85
    go_wp2
    go_loopw [1, 5] (fun qv iv wr => ∃ k q : Nat, k ≤ l.length ∧ iv = .int .i64 k ∧ qv = .int .i64 q ∧ q + l.length + DV.wtE ((SX.rows l).take k) = L + k ∧ Below w.heap.size w wr) (fun _ iv _ => l.length - (Go.RowKit.intOf iv).toNat)
    case atStart => exact ⟨0, L - l.length, Nat.zero_le _, rfl, int_of (by omega), by simp [DV.wtE]; omega, Below.refl _ _⟩
    case round =>
      obtain ⟨k, q, hk, rfl, rfl, hq, hb⟩ := hrel
      by_cases hlt : k < l.length
      · obtain ⟨b, o, A1, c1, hA, hP, q0, q1, k1⟩ := (HL.out.grow hb).at_ hlt
        subst hA
        have hst := wtVE_take (SX.rows l) k (by rw [SX.rows_length]; exact hlt)
        rw [SX.rows_at l k hlt] at hst
        have hre := wtVE_rest (SX.rows l) (k + 1) (by rw [SX.rows_length]; exact hlt)
        rw [SX.rows_length] at hre
        have hqL : q ≤ 1048576 := by have := wtVE_le (SX.rows l) k; omega
        have hox := okVE_at (SX.rows l) HO.out k (by rw [SX.rows_length]; exact hlt)
        rw [SX.rows_at l k hlt] at hox
        have HOX := Lib.hid hox
        have hnx := nodesVE_at (SX.rows l) k (by rw [SX.rows_length]; exact hlt)
        rw [SX.rows_at l k hlt] at hnx
        have HNX := Lib.hid (show DV.nodesL l[k].cells ≤ N by have := HN.out; omega)
        clear hnx
        have HQ := Lib.hid hq
        have HS := Lib.hid hst
        have HR := Lib.hid hre
        have K1 := Lib.hid k1
        clear hq hst hre hox k1
        go_wp2_with fail
        refine (ih l[k] _ q _ HNX.out HOX.out ⟨_, _, rfl, K1.out⟩ hqL).mono ?_
        rintro e w1 ⟨rfl, hb1⟩
        have hb2 : Below w.heap.size w w1 := hb.trans (hb1.mono hb.size)
        by_cases h2 : DV.wtL l[k].cells ≤ q
        · rw [leftV_yes h2]
          have hnn2 : ¬ (q : Int) - (DV.wtL l[k].cells : Nat) < 0 := by omega
          have hq3 : q - DV.wtL l[k].cells + l.length + DV.wtE ((SX.rows l).take (k + 1)) = L + (k + 1) := by rw [HS.out]; have := HQ.out; omega
          have HQ3 := Lib.hid hq3
          clear hq3
          go_wp2
          go_roundw
          case rel => exact ⟨k + 1, q - DV.wtL l[k].cells, by omega, by go_num, int_of (by omega), HQ3.out, hb2⟩
          case measure => simp [Go.RowKit.intOf]; omega
        · rw [leftV_no (by omega)]
          have h3 : L < DV.wtE (SX.rows l) := by have := HQ.out; have := HS.out; have := HR.out; omega
          go_wp2
          go_ret
          exact ⟨ret_int (leftV_no h3).symm, hb2⟩
      · have hkl : k = l.length := by omega
        have h3 : q + DV.wtE (SX.rows l) = L := by
          have := hq
          rw [hkl, List.take_of_length_le (by rw [SX.rows_length]; exact Nat.le_refl _)] at this
          omega
        have H3 := Lib.hid h3
        clear hq h3
        go_wp2
        go_ret
        exact ⟨ret_int (by have := H3.out; rw [leftV_yes (by omega)]; omega), hb⟩

theorem szRows_SExpr : ∀ N, SzSExprS N
  | 0 => by
    intro l A c L w hn _ _ _ _
    have hc := nodesVE_count (SX.rows l)
    rw [SX.rows_length] at hc
    have hl : l = [] := List.eq_nil_of_length_eq_zero (by omega)
    subst hl
    go_enter Try.func85, Try.ntmps85
    have hnn : ¬ (L : Int) - 0 < 0 := by omega
    go_wp2
    refine wp_loop_rounds 1 ?_
    rw [rounds_succ]
    go_wp2
    go_ret
    exact ⟨ret_int (by rw [SX.rows_map, leftV_yes (by simp [DV.wtE])]; simp [DV.wtE]), Below.refl _ _⟩
  | N + 1 => szSExprS_step N (szSExpr_step N (szRows_SExpr N))
theorem szSExpr (x : SX) (v : Value) (L : Nat) (w : World) (ho : DV.okL x.cells) (hv : SxAt w (Und w.heap.size) x v) (hL : L ≤ 1048576) :
    Calls Try.prog 37 #[v, .int .i64 L] w fun e w' => (e = .returned (.int .i64 (leftV L (DV.wtL x.cells))) ∧ Below w.heap.size w w') := (szSExpr_step (DV.nodesL x.cells) (szRows_SExpr (DV.nodesL x.cells))) x v L w (Nat.le_refl _) ho hv hL
theorem szSExprS (l : List SX) (A : Option Addr) (c L : Nat) (w : World) (ho : DV.okE (SX.rows l)) (hn : l.length ≤ 9223372036854775807) (hv : SxRow w (Und w.heap.size) A c l) (hL : L ≤ 1048576) :
    Calls Try.prog 85 #[.slice A l.length c, .int .i64 L] w fun e w' => (e = .returned (.int .i64 (leftV L (DV.wtE (SX.rows l)))) ∧ Below w.heap.size w w') := (szRows_SExpr (DV.nodesE (SX.rows l))) l A c L w (Nat.le_refl _) ho hn hv hL
end Go.Proofs.Ytbcfeoobhemdcaa
namespace Go.Proofs.Ytbcfeoobhemdcaa
open Go.RowKit Go.Lib

theorem infoSxG : (Try.prog.info? 26).map (fun i => (i.zero, i.size, i.bytes)) = some (some (.agg #[.string ByteArray.empty, .slice none 0 0]), 2, 40) := by kernel_rfl
def ToSExpr (N : Nat) : Prop := ∀ (x : SX) (v : Value) (w : World), DV.nodesL x.cells ≤ N → DV.wtL x.cells ≤ 1048576 → SxAt w (Und w.heap.size) x v → Calls Try.prog 38 #[v] w (MadeV x.cells w)
def ToSExprS (N : Nat) : Prop := ∀ (l : List SX) (A : Option Addr) (c : Nat) (w : World), DV.nodesE (SX.rows l) ≤ N → DV.wtE (SX.rows l) ≤ 1048576 → SxRow w (Und w.heap.size) A c l → Calls Try.prog 86 #[.slice A l.length c] w (MadeR (.row 26 2 (SX.rows l)) w)

set_option maxRecDepth 100000 in
set_option maxHeartbeats 2000000 in
theorem toSExpr_step (N : Nat) (ihSExprS : ToSExprS N) : ToSExpr N := by
  intro x v w hn hw hv
  obtain ⟨A1, c1, rfl, h1⟩ := hv
  rw [SX.dwt_eq] at hw
  rw [SX.dnodes_eq] at hn
  have H1 := Lib.hid h1
  have h1lt : w.heap.size + 1 < w.heap.size + 3 := by omega
  have h2lt : w.heap.size + 1 + 1 < w.heap.size + 3 := by omega
  have h1le : w.heap.size ≤ w.heap.size + 1 := by omega
  have h2le : w.heap.size ≤ w.heap.size + 1 + 1 := by omega
  have hne12 : w.heap.size + 1 ≠ w.heap.size + 1 + 1 := by omega
  clear h1
  go_enter Try.func38, Try.ntmps38
  go_wp2_with fail
  refine calls_gen (fun W => Whole W (w.heap.size + 1) 26 #[.string ⟨#[]⟩, .slice none 0 0] ∧ Whole W (w.heap.size + 1 + 1) 26 #[.string x.atom, .slice none 0 0] ∧ Below w.heap.size w W ∧ w.heap.size + 3 ≤ W.heap.size) ?_ ?_
  · refine ⟨?_, ?_, (((Below.refl _ _).alloc (Nat.le_refl _) _).alloc (by simp) _).alloc (by simp; omega) _, by simp⟩
    · have h := Whole.new (w.alloc (.cells #[.string x.atom, .slice A1 x.list.length c1] 46)) 26 #[.string ⟨#[]⟩, .slice none 0 0]
      have h2 := h.below ((Below.refl _ _).alloc (Nat.le_refl _) (.cells #[.string x.atom, .slice none 0 0] 26)) h.lt
      simpa using h2
    · have h := Whole.new ((w.alloc (.cells #[.string x.atom, .slice A1 x.list.length c1] 46)).alloc (.cells #[.string ⟨#[]⟩, .slice none 0 0] 26)) 26 #[.string x.atom, .slice none 0 0]
      simpa using h
  rintro W1 ⟨r1, r2, hb, hsz⟩
  have hO : OwVs W1 (w.heap.size + 3) [.pl (.string x.atom)] [.string x.atom] [] := (OwVs_plain (OwVs_start _ _) _)
  have hN : ([] : List Nat).Nodup := List.nodup_nil
  refine (ihSExprS x.list _ _ _ (by omega) (by omega) (H1.out.grow hb)).mono ?_
  rintro e w1 ⟨v1, b1, rfl, o1, n1, bel1⟩
  obtain ⟨V1, C1, rfl⟩ := OwV_shape o1 (SX.rows_length _)
  obtain ⟨hO, hN⟩ := OwVs_row hO hN bel1 o1 n1 hsz
  have hb := hb.trans (bel1.mono hb.size)
  have hsz : w.heap.size + 3 ≤ w1.heap.size := Nat.le_trans hsz bel1.size
  have s1 := r1.below bel1 r1.lt
  have s2 := r2.below bel1 r2.lt
  have c1_0 : w1.cell? ⟨w.heap.size + 1, 0, none⟩ = some (.string ⟨#[]⟩) := by rw [s1.cell]; rfl
  have c2_0 : w1.cell? ⟨w.heap.size + 1 + 1, 0, none⟩ = some (.string x.atom) := by rw [s2.cell]; rfl
  have f1_0 := s1.frozen 0
  have f2_0 := s2.frozen 0
  have c1_1 : w1.cell? ⟨w.heap.size + 1, 1, none⟩ = some (.slice none 0 0) := by rw [s1.cell]; rfl
  have c2_1 : w1.cell? ⟨w.heap.size + 1 + 1, 1, none⟩ = some (.slice none 0 0) := by rw [s2.cell]; rfl
  have f1_1 := s1.frozen 1
  have f2_1 := s2.frozen 1
  clear bel1
  have HO := Lib.hid hO
  have HB := Lib.hid hb
  clear hO
  go_wp2
  refine bodyPost_ret (v := .agg #[.string x.atom, .slice V1 x.list.length C1]) (by simp [results, Try.results38, go_sem, c1_0, c1_1]) rfl ⟨[.string x.atom, .slice V1 x.list.length C1], _, rfl, ?_, hN, ?_⟩
  · rw [SX.cells_eq]
    exact OwVs_wide (show w.heap.size ≤ w.heap.size + 3 by omega) _ (OwVs_set (OwVs_set (OwVs_set HO.out h2lt _ _) h1lt _ _) h1lt _ _)
  · exact (((HB.out.setCell h2le _).setCell h1le _).setCell h1le _)

set_option maxRecDepth 100000 in
set_option maxHeartbeats 2000000 in
theorem toSExprS_step (N : Nat) (ih : ToSExpr N) : ToSExprS (N + 1) := by
  intro l A c w hn hw hl
  have hlen := wtVE_length (SX.rows l)
  rw [SX.rows_length] at hlen
  obtain ⟨i0, hi, hz0, hz1, hz2⟩ := info_parts infoSxG
  have km := fun (w : World) => run_make (P := Try.prog) w 24 26 i0 (.agg #[.string ByteArray.empty, .slice none 0 0]) Try.underlying24 hi hz0 .i64 .i64 (l.length : Int) (l.length : Int) (by omega) (by omega) (by rw [hz2]; omega) (by omega)
  simp only [Int.toNat_natCast, hz1] at km
  have hms : (madeCells (Value.agg #[.string ByteArray.empty, .slice none 0 0]).cells (l.length * 2)).size = l.length * 2 := size_madeCells _ _
  generalize madeCells (Value.agg #[.string ByteArray.empty, .slice none 0 0]).cells (l.length * 2) = cs0 at *
  have HL := Lib.hid hl
  have HN := Lib.hid hn
  have HW := Lib.hid hw
  have HM := Lib.hid hms
  clear hl hn hw hms hi hz0 hz1 hz2
  go_enter Try.func86, Try.ntmps86
  go_wp2
  clear km
  have hb0 : Below w.heap.size w (w.alloc (.cells cs0 26)) := (Below.refl _ _).alloc (Nat.le_refl _) _
  have hw0 := Whole.new w 26 cs0
  go_loopw [4] (fun iv wr => ∃ (k : Nat) (cs : Array Value) (bs : List Nat), k ≤ l.length ∧ iv = .int .i64 k ∧ Whole wr w.heap.size 26 cs ∧ cs.size = l.length * 2 ∧ OwVE wr (w.heap.size + 1) 2 (SX.rows (l.take k)) (cs.toList.take (k * 2)) bs ∧ bs.Nodup ∧ Below w.heap.size w wr) (fun iv _ => l.length - (Go.RowKit.intOf iv).toNat)
  case atStart => exact ⟨0, cs0, [], Nat.zero_le _, rfl, hw0, HM.out, by rw [List.take_zero, SX.rows_map, List.map_nil, Nat.zero_mul, List.take_zero, OwVE]; exact ⟨rfl, rfl⟩, List.nodup_nil, hb0⟩
  case round =>
    obtain ⟨k, cs, bs, hk, rfl, hwr, hcs, hE, hnd, hb⟩ := hrel
    clear hw0 hb0
    by_cases hlt : k < l.length
    · obtain ⟨b, o, A1, c1, hA, hP, p0, p1, h1⟩ := (HL.out.grow hb).at_ hlt
      subst hA
      have hnx := nodesVE_at (SX.rows l) k (by rw [SX.rows_length]; exact hlt)
      rw [SX.rows_at l k hlt] at hnx
      have HNX := Lib.hid (show DV.nodesL l[k].cells ≤ N by have := HN.out; omega)
      clear hnx
      have hwx : DV.wtL l[k].cells ≤ 1048576 := by
        have h := wtVE_at (SX.rows l) k (by rw [SX.rows_length]; exact hlt)
        rw [SX.rows_at l k hlt] at h
        have := HW.out
        omega
      have hX : SxAt wr (Und wr.heap.size) l[k] (.agg #[.string l[k].atom, .slice A1 l[k].list.length c1]) := ⟨A1, c1, rfl, h1⟩
      have HX := Lib.hid hX
      clear hX
      have HE := Lib.hid hE
      have HND := Lib.hid hnd
      clear h1 hE hnd
      go_wp2_with fail
      refine (ih l[k] _ _ HNX.out hwx HX.out).mono ?_
      rintro e w1 ⟨vs, b2, rfl, ho2, hn2, hb1⟩
      have hcell := SX.cells_length l[k]
      have hw1 := hwr.below hb1 hwr.lt
      have hfill := fun (w2 : World) (h2 : ∀ b, b ≠ w.heap.size → w2.heap[b]? = w1.heap[b]?) => OwVE_fill HE.out HND.out hb1 hwr.lt ho2 hn2 hcell (by have : (k + 1) * 2 ≤ l.length * 2 := Nat.mul_le_mul_right _ hlt; omega) h2
      have ho3 := ho2
      rw [SX.cells_eq] at ho3
      simp only [OwVs] at ho3
      obtain ⟨v0, _, z0, _, rfl, rfl, k0, v1, _, z1, _, rfl, rfl, k1, rfl, rfl⟩ := ho3
      rw [OwV] at k0
      obtain ⟨rfl, rfl⟩ := k0
      obtain ⟨V1, C1, rfl⟩ := OwV_shape k1 (SX.rows_length _)
      obtain ⟨d0, e0⟩ : ∃ v, w1.cell? ⟨w.heap.size, k * 2, none⟩ = some v := by rw [hw1.cell]; exact ⟨_, Array.getElem?_eq_getElem (by have : (k + 1) * 2 ≤ l.length * 2 := Nat.mul_le_mul_right _ hlt; omega)⟩
      have f0 := hw1.frozen (k * 2)
      obtain ⟨d1, e1⟩ : ∃ v, w1.cell? ⟨w.heap.size, k * 2 + 1, none⟩ = some v := by rw [hw1.cell]; exact ⟨_, Array.getElem?_eq_getElem (by have : (k + 1) * 2 ≤ l.length * 2 := Nat.mul_le_mul_right _ hlt; omega)⟩
      have f1 := hw1.frozen (k * 2 + 1)
      have HF := Lib.hid hfill
      have hb2 : Below w.heap.size w w1 := hb.trans (hb1.mono hb.size)
      have hkb : (k : Int) ≤ 1048576 := by have := HW.out; omega
      clear hfill ho2 hn2 hcell k1
      go_wp2
      go_roundw
      case rel =>
        have hfin := HF.out ((w1.setCell ⟨w.heap.size, k * 2, none⟩ (.string l[k].atom)).setCell ⟨w.heap.size, k * 2 + 1, none⟩ (.slice V1 l[k].list.length C1)) (fun b hne => by rw [Below.heap_setCell _ _ _ _ (by exact hne), Below.heap_setCell _ _ _ _ (by exact hne)])
        exact ⟨k + 1, _, _, by omega, by go_num, show Whole _ _ _ (setAt cs (k * 2) [.string l[k].atom, .slice V1 l[k].list.length C1]) from ((hw1.set_ _ _).set_ _ _), by rw [setAt_size]; exact hcs, by rw [List.take_succ_eq_append_getElem hlt, SX.rows_snoc]; exact hfin.1, hfin.2, ((hb2.setCell (Nat.le_refl _) _).setCell (Nat.le_refl _) _)⟩
      case measure => simp [Go.RowKit.intOf]; omega
    · have hkl : k = l.length := by omega
      subst hkl
      rw [List.take_length, List.take_of_length_le (by simp [hcs])] at hE
      have hfin := OwV_filled hwr hcs (by have := HW.out; unfold maxLen; omega) (SX.rows_length l) hE hnd
      have HF := Lib.hid hfin
      clear hE hnd hfin
      go_wp2
      go_ret
      exact ⟨_, _, rfl, HF.out.1, HF.out.2, hb⟩

set_option maxRecDepth 100000 in
set_option maxHeartbeats 2000000 in
theorem toEmpty_SExpr (A : Option Addr) (c : Nat) (w : World) : Calls Try.prog 86 #[.slice A 0 c] w (MadeR (.row 26 2 (SX.rows [])) w) := by
  obtain ⟨i0, hi, hz0, hz1, hz2⟩ := info_parts infoSxG
  have km := fun (w : World) => run_make (P := Try.prog) w 24 26 i0 (.agg #[.string ByteArray.empty, .slice none 0 0]) Try.underlying24 hi hz0 .i64 .i64 (0 : Int) (0 : Int) (by omega) (by omega) (by rw [hz2]; omega) (by omega)
  simp only [Int.toNat_zero, Nat.zero_mul] at km
  have hms : (madeCells (Value.agg #[.string ByteArray.empty, .slice none 0 0]).cells 0).size = 0 := size_madeCells _ _
  generalize madeCells (Value.agg #[.string ByteArray.empty, .slice none 0 0]).cells 0 = cs0 at *
  have hw0 := Whole.new w 26 cs0
  have hb0 : Below w.heap.size w (w.alloc (.cells cs0 26)) := (Below.refl _ _).alloc (Nat.le_refl _) _
  have hfin := OwV_filled hw0 (n := 0) (K := 2) (by omega) (by unfold maxLen; omega) (xs := SX.rows []) (SX.rows_length []) (bs := []) (by rw [SX.rows_map, List.map_nil, OwVE]; exact ⟨List.eq_nil_of_length_eq_zero (by simpa using hms), rfl⟩) List.nodup_nil
  have HF := Lib.hid hfin
  have HB := Lib.hid hb0
  clear hi hz0 hz1 hz2 hms hw0 hb0 hfin
  go_enter Try.func86, Try.ntmps86
  go_wp2
  clear km
  refine wp_loop_rounds 1 ?_
  rw [rounds_succ]
  go_wp2
  go_ret
  exact ⟨_, _, rfl, HF.out.1, HF.out.2, HB.out⟩

theorem toZero_SExpr : ToSExprS 0 := by
  refine fun l A c w hn hw hl => ?_
  have hc := nodesVE_count (SX.rows l)
  rw [SX.rows_length] at hc
  have hl0 : l = [] := List.eq_nil_of_length_eq_zero (by omega)
  subst hl0
  exact toEmpty_SExpr A c w

theorem toRows_SExpr : ∀ N, ToSExprS N
  | 0 => toZero_SExpr
  | N + 1 => toSExprS_step N (toSExpr_step N (toRows_SExpr N))
theorem toSExpr (x : SX) (v : Value) (w : World) (hw : DV.wtL x.cells ≤ 1048576) (hv : SxAt w (Und w.heap.size) x v) : Calls Try.prog 38 #[v] w (MadeV x.cells w) := (toSExpr_step (DV.nodesL x.cells) (toRows_SExpr (DV.nodesL x.cells))) x v w (Nat.le_refl _) hw hv
theorem toSExprS (l : List SX) (A : Option Addr) (c : Nat) (w : World) (hw : DV.wtE (SX.rows l) ≤ 1048576) (hv : SxRow w (Und w.heap.size) A c l) : Calls Try.prog 86 #[.slice A l.length c] w (MadeR (.row 26 2 (SX.rows l)) w) := (toRows_SExpr (DV.nodesE (SX.rows l))) l A c w (Nat.le_refl _) hw hv
end Go.Proofs.Ytbcfeoobhemdcaa
namespace Go.Proofs.Ytbcfeoobhemdcaa
open Go.RowKit Go.Lib

def HeldTypeS (N : Nat) : Prop := ∀ (l : List TypeX) (A : Option Addr) (c k : Nat) (w : World), DV.nodesE (TypeX.rows l) ≤ N → RdV w (Und w.heap.size) (.row 35 3 (vmkE k (TypeX.rows l))) (.slice A l.length c) → 0 < k → k + DV.cntE (TypeX.rows l) ≤ 4294967296 →
  Calls Try.prog 105 #[.slice A l.length c, .int .i64 k] w fun e w' => e = .returned (.int .i64 (k + DV.cntE (TypeX.rows l) : Nat)) ∧ Below w.heap.size w w'

set_option maxRecDepth 100000 in
set_option maxHeartbeats 2000000 in
theorem heldTypeS_step (N : Nat) (ihTypeS : HeldTypeS N) : HeldTypeS (N + 1) := by
  intro l A c k w hn hl hk0 hkn
  have hcap : l.length ≤ 9223372036854775807 := by
    obtain ⟨_, _, _, h1, h2⟩ := hl.shape
    rw [vmkE_length, TypeX.rows_length] at h1
    omega
  have HL := Lib.hid hl
  have HN := Lib.hid hn
  clear hl hn
  go_enter Try.func105, Try.ntmps105
  go_wp2
  go_loopw [1, 5] (fun kv iv wr => ∃ i kk : Nat, i ≤ l.length ∧ iv = .int .i64 i ∧ kk = k + DV.cntE ((TypeX.rows l).take i) ∧ kv = .int .i64 kk ∧ Below w.heap.size w wr) (fun _ iv _ => l.length - (Go.RowKit.intOf iv).toNat)
  case atStart => exact ⟨0, k, Nat.zero_le _, rfl, by simp [DV.cntE], rfl, Below.refl _ _⟩
  case round =>
    obtain ⟨i, kk, hi, rfl, hkke, rfl, hb⟩ := hrel
    by_cases hlt : i < l.length
    · have hil : i < (TypeX.rows l).length := by rw [TypeX.rows_length]; exact hlt
      have hst := cntE_step (TypeX.rows l) i hil
      have hle := cntE_part (TypeX.rows l) (i + 1)
      rw [TypeX.rows_at l i hlt hil] at hst
      have hcl : DV.cntL l[i].cells = 1 + 1 + DV.cntE (TypeX.rows l[i].args_) := by rw [TypeX.cells_eq]; simp only [DV.cntL, DV.cnt]; omega
      rw [hcl] at hst
      have hbound : kk + (1 + 1 + DV.cntE (TypeX.rows l[i].args_)) ≤ 4294967296 := by omega
      have hkpos : 0 < kk := by omega
      have hnx := nodesVE_at (TypeX.rows l) i hil
      rw [TypeX.rows_at l i hlt hil, TypeX.cells_eq] at hnx
      simp only [DV.nodesL, DV.nodes] at hnx
      have HNX := Lib.hid (show DV.nodesE (TypeX.rows l[i].args_) ≤ N by have := HN.out; omega)
      clear hnx
      obtain ⟨b, o, ws, hA, hP, hR, hc⟩ := RdV.at_ (HL.out.grow hb) (j := i) (by rw [vmkE_length]; exact hil)
      subst hA
      have hge : (vmkE k (TypeX.rows l))[i]'(by rw [vmkE_length]; exact hil) = vmkL kk l[i].cells := by
        have h := vmkE_at (TypeX.rows l) k i hil
        rw [List.getElem?_eq_getElem (by rw [vmkE_length]; exact hil), ← hkke, TypeX.rows_at l i hlt hil] at h
        exact Option.some.inj h
      rw [hge, TypeX.cells_eq] at hR
      simp only [vmkL, DV.vmk, vmkU, DV.cnt] at hR
      obtain ⟨k1, ek1⟩ : ∃ q : Nat, q = kk + 1 := ⟨_, rfl⟩
      obtain ⟨k2, ek2⟩ : ∃ q : Nat, q = k1 + 1 := ⟨_, rfl⟩
      obtain ⟨k3, ek3⟩ : ∃ q : Nat, q = k2 + DV.cntE (TypeX.rows l[i].args_) := ⟨_, rfl⟩
      simp only [← ek1, ← ek2] at hR
      simp only [RdVs] at hR
      obtain ⟨v0, _, z0, h0, v1, _, z1, h1, v2, _, z2, h2, z3⟩ := hR
      subst z3 z2 z1 z0
      rw [RdV_pl] at h0
      subst h0
      rw [RdV_pl] at h1
      subst h1
      obtain ⟨A2, c2, rfl, _, _⟩ := h2.shape
      rw [vmkE_length, TypeX.rows_length] at h2 hc
      have q0 : wr.cell? ⟨b, o + i * 3, none⟩ = some (.int .i64 (kk : Nat)) := hc 0 _ rfl
      have q1 : wr.cell? ⟨b, o + i * 3 + 1, none⟩ = some (.string (mark k1)) := hc 1 _ rfl
      have q2 : wr.cell? ⟨b, o + i * 3 + 2, none⟩ = some (.slice A2 l[i].args_.length c2) := hc 2 _ rfl
      clear hc hge
      have Ik1 := Lib.hid (show ((kk : Nat) : Int) + 1 = ((k1 : Nat) : Int) by omega)
      have bk1 : k1 + (1 + DV.cntE (TypeX.rows l[i].args_)) ≤ 4294967296 := by omega
      have pk1 : 0 < k1 := by omega
      have Ik2 := Lib.hid (show ((k1 : Nat) : Int) + 1 = ((k2 : Nat) : Int) by omega)
      have bk2 : k2 + (DV.cntE (TypeX.rows l[i].args_)) ≤ 4294967296 := by omega
      have pk2 : 0 < k2 := by omega
      have ak3 : k2 + DV.cntE (TypeX.rows l[i].args_) ≤ 4294967296 := by omega
      have bk3 : k3 + (0) ≤ 4294967296 := by omega
      have pk3 : 0 < k3 := by omega
      have hkf : k3 = k + DV.cntE ((TypeX.rows l).take (i + 1)) := by omega
      have HKF := Lib.hid hkf
      have Kk1 := Lib.hid ek1
      have Kk2 := Lib.hid ek2
      have Kk3 := Lib.hid ek3
      clear hkf hst hle hcl hkke ek1 ek2 ek3
      have H2 := Lib.hid h2
      clear h2
      have hi0 : (0 : Int) ≤ i := by omega
      have cM : ∀ d os, Calls Try.prog 131 #[.int .i64 (k1 : Nat)] (Go.Sort.grow (redrawn wr d) os) fun e w'' => e = .returned (.string (mark k1)) ∧ ∃ p : Regrown, w'' = Go.Sort.grow (redrawn wr p.d) p.os := fun d os => Calls.regrown_of (markText k1 _ (by omega) (by omega))
      have cM2 := cM
      rw [← Ik1.out] at cM2
      have kc := cell_regrown q1
      go_wp2
      refine wp_region_quiet_below (by kernel_rfl) (by kernel_rfl) ?_
      repeat (quiet_step (exact cM2 _ _))
      refine wpQuiet_nil ?_
      intro _ hw'
      obtain ⟨⟨dq, osq⟩, hw''⟩ := hw'
      subst hw''
      have hb2 := below_regrown wr dq osq
      have hb := hb.trans (hb2.mono hb.size)
      clear cM kc cM2
      have q2 := (hb2.cell (p := ⟨b, o + i * 3 + 2, none⟩) hP).trans q2
      have hP : Und (Go.Sort.grow (redrawn wr dq) osq).heap.size b := Nat.lt_of_lt_of_le hP hb2.size
      have H2 := Lib.hid (H2.out.grow hb2)
      clear q1 hb2
      generalize Go.Sort.grow (redrawn wr dq) osq = W1 at *
      go_wp2_with fail
      first | rw [Ik1.out, Ik2.out] | rw [show ((kk : Nat) : Int) + 2 = ((k2 : Nat) : Int) by have := Ik1.out; have := Ik2.out; omega]
      refine (ihTypeS l[i].args_ A2 c2 k2 _ (by have := HNX.out; omega) H2.out (by omega) (by omega)).mono ?_
      rintro e W2 ⟨rfl, hb2⟩
      rw [← Kk3.out]
      have hb := hb.trans (hb2.mono hb.size)
      have hP : Und W2.heap.size b := Nat.lt_of_lt_of_le hP hb2.size
      have hnn2 : ¬ (((k3 : Nat) : Int) < 0) := by omega
      clear q2 hb2
      go_wp2
      go_roundw
      case rel => exact ⟨i + 1, k3, by omega, by go_num, HKF.out, int_of (by omega), hb⟩
      case measure => simp [Go.RowKit.intOf]; omega
    · have hil : i = l.length := by omega
      subst hil
      rw [List.take_of_length_le (by rw [TypeX.rows_length]; exact Nat.le_refl _)] at hkke
      subst hkke
      go_wp2
      go_ret
      exact ⟨rfl, hb⟩

theorem heldRows_Type : ∀ N, HeldTypeS N
  | 0 => by
    intro l A c k w hn hl hk0 hkn
    have hc := nodesVE_count (TypeX.rows l)
    rw [TypeX.rows_length] at hc
    have hl : l = [] := List.eq_nil_of_length_eq_zero (by omega)
    subst hl
    go_enter Try.func105, Try.ntmps105
    go_wp2
    refine wp_loop_rounds 1 ?_
    rw [rounds_succ]
    go_wp2
    go_ret
    exact ⟨rfl, Below.refl _ _⟩
  | N + 1 => heldTypeS_step N (heldRows_Type N)
theorem heldTypeS (l : List TypeX) (A : Option Addr) (c k : Nat) (w : World) (hl : RdV w (Und w.heap.size) (.row 35 3 (vmkE k (TypeX.rows l))) (.slice A l.length c)) (hk0 : 0 < k) (hk : k + DV.cntE (TypeX.rows l) ≤ 4294967296) :
    Calls Try.prog 105 #[.slice A l.length c, .int .i64 k] w fun e w' => e = .returned (.int .i64 (k + DV.cntE (TypeX.rows l) : Nat)) ∧ Below w.heap.size w w' := (heldRows_Type (DV.nodesE (TypeX.rows l))) l A c k w (Nat.le_refl _) hl hk0 hk
end Go.Proofs.Ytbcfeoobhemdcaa
namespace Go.Proofs.Ytbcfeoobhemdcaa
open Go.RowKit Go.Lib

set_option maxRecDepth 100000 in
set_option maxHeartbeats 2000000 in
theorem heldVType (x : TypeX) (A : Option Addr) (c k : Nat) (w : World) (hl : RdV w (Und w.heap.size) (.row 35 3 (vmkE k (TypeX.rows x.args_))) (.slice A x.args_.length c)) (hk0 : 0 < k) (hk : k + DV.cntE (TypeX.rows x.args_) ≤ 4294967296) :
    Calls Try.prog 55 #[.agg #[.int .i64 x.kind_, .string x.name_, .slice A x.args_.length c], .int .i64 k] w fun e w' => e = .returned (.int .i64 (k + DV.cntE (TypeX.rows x.args_) : Nat)) ∧ Below w.heap.size w w' := by
  have hb0 : Below w.heap.size w (w.alloc (.cells #[.int .i64 x.kind_, .string x.name_, .slice A x.args_.length c] 35)) := (Below.refl _ _).alloc (Nat.le_refl _) _
  have HL := Lib.hid (RdV.grow hl hb0)
  have hnn : ¬ ((k + DV.cntE (TypeX.rows x.args_) : Nat) : Int) < 0 := by omega
  clear hl
  go_enter Try.func55, Try.ntmps55
  go_wp2_with fail
  refine (heldTypeS x.args_ A c k _ HL.out hk0 hk).mono ?_
  rintro e w1 ⟨rfl, hb⟩
  have hb1 := hb0.trans (hb.mono hb0.size)
  go_wp2
  go_ret
  exact ⟨rfl, hb1⟩
/-- The row of what has been marked. -/
theorem marked_row {x : TypeX} {w : World} {B k : Nat} {P : Nat → Prop} {A : Option Addr} {c : Nat} {bs : List Nat} (hP : ∀ b ∈ bs, P b) (h : OwVs w B (tmkL k x.cells) [.int .i64 x.kind_, .string x.name_, .slice A x.args_.length c] bs) :
    RdV w P (.row 35 3 (vmkE k (TypeX.rows x.args_))) (.slice A x.args_.length c) := by
  have h2 := OwVs_read _ hP h
  rw [TypeX.tmk_eq] at h2
  simp only [RdVs] at h2
  obtain ⟨v0, _, e0, h0, v1, _, e1, h1, v2, _, e2, h3, e3⟩ := h2
  subst e3
  simp only [List.cons.injEq] at e0
  obtain ⟨rfl, rfl⟩ := e0
  simp only [List.cons.injEq] at e1
  obtain ⟨rfl, rfl⟩ := e1
  simp only [List.cons.injEq, and_true] at e2
  rw [← e2] at h3
  exact h3
end Go.Proofs.Ytbcfeoobhemdcaa
namespace Go.Proofs.Ytbcfeoobhemdcaa
open Go.ChangeShapes Go.WideShapes Go.ChangeAt Go.RowKit Go.Deep

/-- The laws' expressions by the program's. -/
def toImplX (t : TypeId) : TypeId := if t = 46 then 26 else t
def sxG (t : TypeId) : Prop := t = 46 ∨ t = 44 ∨ t = 9
theorem sxG_ok : ∀ t, sxG t → KindOk Try.prog sxG t := by
  rintro t (rfl | rfl | rfl)
  · refine .inr (.inr (.inr (.inr ⟨_, Try.underlying46, ?_, ?_⟩)))
    · intro f hf
      simp only [List.mem_cons, List.not_mem_nil, or_false] at hf
      rcases hf with rfl | rfl
      · exact .inr (.inr rfl)
      · exact .inr (.inl rfl)
    · simp only [contig]
      exact ⟨trivial, by kernel_rfl, by kernel_rfl⟩
  · exact .inr (.inr (.inr (.inl ⟨_, Try.underlying44, .inl rfl, by rw [show Try.prog.cellsOf 46 = 2 by kernel_rfl]; decide⟩)))
  · exact .inr (.inl Try.underlying9)
theorem cellsOf_SExpr : Try.prog.cellsOf 46 = 2 := by kernel_rfl
theorem fits_SExpr : ∀ (N n : Nat) (ds : List DV), n ≤ N → Fits Try.prog toImplX n 46 ds → ∃ x : SX, ds = x.cells
  | 0, n, ds, hn, h => by
    obtain rfl : n = 0 := by omega
    rw [Fits] at h; exact h.elim
  | N + 1, n, ds, hn, h => by
    obtain ⟨m, parts, rfl, rfl, hl, hp⟩ := fits_struct Try.underlying46 h
    match parts, hl with
    | [p1, p2], _ =>
      obtain ⟨s, rfl⟩ := fits_string Try.underlying9 (hp 0 _ p1 rfl rfl)
      obtain ⟨m', xs, rfl, rfl, hx⟩ := fits_slice Try.underlying44 (hp 1 _ p2 rfl rfl)
      obtain ⟨l, rfl⟩ := list_of SX.cells xs fun y hy => fits_SExpr N m' y (by omega) (hx y hy)
      exact ⟨.mk s l, by rw [SX.cells, SX.rows_map, cellsOf_SExpr]; rfl⟩
theorem sx_arg {H : Type} {enc : TypeId × Value → H} {w : World} {base : Nat} {spare : Nat → Bool} {held : Bool} {fuel : Nat} {cs : List Value} {y : DataW H × List MemPlace} (h : DataW.trod enc Try.prog w base spare held fuel 46 cs = some y) :
    ∃ x : SX, SxAt w (Und w.heap.size) x (.agg cs.toArray) ∧ DV.okL x.cells := by
  obtain ⟨ds, h1, h2, h3⟩ := trod_fits (φ := toImplX) sxG_ok fuel fuel _ _ _ (Nat.le_refl _) (.inl rfl) h
  obtain ⟨x, rfl⟩ := fits_SExpr fuel fuel ds (Nat.le_refl _) h1
  exact ⟨x, SxAt.of_reads h2, h3⟩
mutual
theorem ok_cells : ∀ x : SX, DV.okL x.cells → x.ok
  | .mk a l, h => by
    rw [SX.cells] at h
    simp only [DV.okL, DV.ok, uok, SX.rows_length, and_true] at h
    rw [SX.ok]
    exact ⟨h.1, h.2.1, okE_cells l h.2.2⟩
theorem okE_cells : ∀ l : List SX, DV.okE (SX.rows l) → SX.okL l
  | [], _ => by rw [SX.okL]; trivial
  | x :: r, h => by
    rw [SX.rows, DV.okE] at h
    rw [SX.okL]
    exact ⟨ok_cells x h.1, okE_cells r h.2⟩
end
end Go.Proofs.Ytbcfeoobhemdcaa
namespace Go.Proofs
open Go.Shelf
def Try.lays156_ren : Go.Shelf.Ren := ⟨fun | 156 => 142 | 165 => 152 | 166 => 153 | 169 => 154 | 240 => 157 | 241 => 158 | 276 => 160 | 277 => 161 | n => n, fun | 31 => 39 | 9 => 9 | 3 => 3 | 4 => 4 | 0 => 0 | 20 => 20 | 72 => 155 | 76 => 159 | 70 => 153 | 37 => 22 | 75 => 158 | 127 => 164 | 164 => 166 | 5 => 5 | 80 => 161 | n => n, fun | n => n⟩
theorem Try.lays156 : Go.Proofs.Lays.n156 Try.prog Try.lays156_ren := {
  mixed := by kernel_rfl
  f156 := Try.func142.trans (congrArg some (by kernel_rfl))
  f165 := Try.func152.trans (congrArg some (by kernel_rfl))
  f166 := Try.func153.trans (congrArg some (by kernel_rfl))
  f169 := Try.func154.trans (congrArg some (by kernel_rfl))
  f240 := Try.func157.trans (congrArg some (by kernel_rfl))
  f241 := Try.func158.trans (congrArg some (by kernel_rfl))
  f276 := Try.func160.trans (congrArg some (by kernel_rfl))
  f277 := Try.func161.trans (congrArg some (by kernel_rfl))
  t0 := Try.underlying0
  a0 := Try.isAgg0
  z0 := Try.sizeOf0
  v0 := Try.zeroValue0
  t3 := Try.underlying3
  a3 := Try.isAgg3
  z3 := Try.sizeOf3
  v3 := Try.zeroValue3
  t4 := Try.underlying4
  a4 := Try.isAgg4
  z4 := Try.sizeOf4
  v4 := Try.zeroValue4
  t9 := Try.underlying9
  a9 := Try.isAgg9
  z9 := Try.sizeOf9
  v9 := Try.zeroValue9
  t20 := Try.underlying20
  a20 := Try.isAgg20
  z20 := Try.sizeOf20
  v20 := Try.zeroValue20
  t31 := Try.underlying39
  a31 := Try.isAgg39
  z31 := Try.sizeOf39
  v31 := Try.zeroValue39
  t37 := Try.underlying22
  a37 := Try.isAgg22
  z37 := Try.sizeOf22
  v37 := Try.zeroValue22
  t70 := Try.underlying153
  a70 := Try.isAgg153
  z70 := Try.sizeOf153
  v70 := Try.zeroValue153
  t72 := Try.underlying155
  a72 := Try.isAgg155
  z72 := Try.sizeOf155
  v72 := Try.zeroValue155
  t75 := Try.underlying158
  a75 := Try.isAgg158
  z75 := Try.sizeOf158
  v75 := Try.zeroValue158
  t76 := Try.underlying159
  a76 := Try.isAgg159
  z76 := Try.sizeOf159
  v76 := Try.zeroValue159
  t127 := Try.underlying164
  a127 := Try.isAgg164
  z127 := Try.sizeOf164
  v127 := Try.zeroValue164
  t164 := Try.underlying166
  a164 := Try.isAgg166
  z164 := Try.sizeOf166
  v164 := Try.zeroValue166 }
theorem Try.Builder_Extra_156 : Builder.Extra Try.prog Try.lays156_ren := {
  sizeBuilder := by kernel_rfl
  liesBuilder := by kernel_rfl
  t5 := Try.underlying5
  a5 := Try.isAgg5
  z5 := Try.sizeOf5
  v5 := Try.zeroValue5
  infoByte := by kernel_rfl
  cellsByte := by kernel_rfl
  sizeByte := by kernel_rfl
  neB5 := by decide }
open Go.RowKit in
theorem Try.strings_Join (bk o c : Nat) (xs : List ByteArray) (sep : ByteArray) (w : World) (hcells : ∀ (j : Nat) x, xs[j]? = some x → w.cell? ⟨bk, o + j, none⟩ = some (.string x)) (hbk : bk < w.heap.size) (hN : xs.length ≤ 140737488355328) (hcap : xs.length ≤ c) (hlen : (Lib.join (xs.map (·.data.toList)) sep.data.toList).length ≤ 140737488355328) :
    Calls Try.prog 142 #[.slice (some ⟨bk, o, none⟩) xs.length c, .string sep] w fun e w' => e = .returned (.string ⟨(Lib.join (xs.map (·.data.toList)) sep.data.toList).toArray⟩) ∧ Below w.heap.size w w' := Any.strings_Join Try.lays156 Try.Builder_Extra_156 bk o c xs sep w hcells hbk hN hcap hlen
end Go.Proofs
namespace Go.Proofs.Ytbcfeoobhemdcaa
open Go.RowKit Go.Lib

theorem implJoin (g : Nat) (ss : List ByteArray) (sep : ByteArray) (w : World) (hw : Whole w g 9 (ss.map Value.string).toArray) (h1 : ss.length ≤ 4294967296) (hl : (join (ss.map (·.data.toList)) sep.data.toList).length ≤ 1099512676352) :
    Calls Try.prog 110 #[.slice (some ⟨g, 0, none⟩) ss.length ss.length, .string sep] w fun e w' => e = .returned (.string ⟨(join (ss.map (·.data.toList)) sep.data.toList).toArray⟩) ∧ Below w.heap.size w w' := by
  have hc : ∀ (j : Nat) x, ss[j]? = some x → w.cell? ⟨g, 0 + j, none⟩ = some (.string x) := fun j x hj => by rw [hw.cell, Nat.zero_add]; simp [hj]
  have HC := Lib.hid hc
  clear hc
  go_enter Try.func110, Try.ntmps110
  go_wp2_with fail
  refine (Try.strings_Join g 0 ss.length ss sep _ HC.out hw.lt (by omega) (Nat.le_refl _) (by omega)).mono ?_
  rintro e w1 ⟨rfl, hb⟩
  go_wp2
  go_ret
  exact ⟨rfl, hb⟩
end Go.Proofs.Ytbcfeoobhemdcaa
namespace Go.Proofs.Ytbcfeoobhemdcaa
open Go.RowKit Go.Lib

/-- The first k strings lie in the row. -/
def FilledTo (cs : Array Value) (ss : List ByteArray) : Prop := ∀ (j : Nat) (s : ByteArray), ss[j]? = some s → cs[j]? = some (Value.string s)
theorem FilledTo.snoc {cs : Array Value} {ss : List ByteArray} {k : Nat} {s : ByteArray} (h : FilledTo cs ss) (hk : ss.length = k) (hc : k < cs.size) : FilledTo (cs.setIfInBounds k (.string s)) (ss ++ [s]) := by
  intro j t hj
  by_cases he : j = k
  · subst he
    rw [← hk, List.getElem?_append_right (Nat.le_refl _), Nat.sub_self] at hj
    simp at hj
    subst hj
    rw [Array.getElem?_setIfInBounds_self_of_lt hc]
  · have hl : j < (ss ++ [s]).length := (List.getElem?_eq_some_iff.1 hj).1
    rw [List.length_append, List.length_singleton] at hl
    rw [List.getElem?_append_left (by omega)] at hj
    rw [Array.getElem?_setIfInBounds_ne (Ne.symm he)]
    exact h j t hj
theorem FilledTo.full {cs : Array Value} {ss : List ByteArray} (h : FilledTo cs ss) (hc : cs.size = ss.length) : cs = (ss.map Value.string).toArray := by
  apply Array.ext_getElem?
  intro j
  by_cases hj : j < ss.length
  · rw [h j ss[j] (List.getElem?_eq_getElem hj)]
    simp [hj]
  · rw [Array.getElem?_eq_none (by omega), Array.getElem?_eq_none (by simp; omega)]

def FmtX (N : Nat) : Prop := ∀ (x : SX) (A : Option Addr) (c : Nat) (w : World), x.nodes ≤ N → x.wt + 3 * x.nodes ≤ 1048576 → ListAt w (Lt w.heap.size) A x.list →
  Calls Try.prog 61 #[.agg #[.string x.atom, .slice A x.list.length c]] w fun e w' => e = .returned (.string x.text) ∧ Below w.heap.size w w'

set_option maxRecDepth 100000 in
set_option maxHeartbeats 2000000 in
theorem fmtX : ∀ N, FmtX N
  | 0 => fun x A c w hn => by rw [SX.nodes_eq] at hn; omega
  | N + 1 => by
    intro x A c w hn hm hl
    have ih := fmtX N
    obtain ⟨i0, hi, hz0, hz1, hz2⟩ := info_parts infoString
    have hne := SX.nodes_eq x
    have hwe := SX.wt_eq x
    have hll := SX.wtL_length x.list
    have hlen : x.list.length ≤ 1048576 := by omega
    have hte := SX.text_eq x
    by_cases ha : x.atom.size = 0
    · rw [if_pos ha] at hte
      have htl := SX.textL_length x.list
      have hjl : (join ((SX.textL x.list).map (·.data.toList)) [32]).length ≤ 1048576 := by
        have h1 := SX.text_le x
        have h2 : x.text.size = 1 + (join ((SX.textL x.list).map (·.data.toList)) [32]).length + 1 := by rw [hte]; simp only [ByteArray.size_append]; rw [show (⟨(join ((SX.textL x.list).map (·.data.toList)) [32]).toArray⟩ : ByteArray).size = (join ((SX.textL x.list).map (·.data.toList)) [32]).length by simp [ByteArray.size]]; rfl
        omega
      have hm2 : SX.wtL x.list + 3 * SX.nodesL x.list ≤ 1048576 := by omega
      have hn2 : SX.nodesL x.list ≤ N := by omega
      have km := fun (w : World) => run_make (P := Try.prog) w 39 9 i0 (.string ByteArray.empty) Try.underlying39 hi hz0 .i64 .i64 (x.list.length : Int) (x.list.length : Int) (by omega) (by omega) (by rw [hz2]; omega) (by omega)
      simp only [Int.toNat_natCast, hz1] at km
      have hms : (madeCells (Value.string ByteArray.empty).cells (x.list.length * 1)).size = x.list.length * 1 := size_madeCells _ _
      rw [Nat.mul_one] at hms km
      generalize madeCells (Value.string ByteArray.empty).cells x.list.length = cs0 at *
      have HL := Lib.hid hl
      have HT := Lib.hid hte
      have HTL := Lib.hid htl
      have HM := Lib.hid hms
      clear hl hne hwe hll hte htl hm hn hi hz0 hz1 hz2 hms
      rw [empty_of ha]
      clear ha
      have hb0 : Below w.heap.size w ((w.alloc (.cells #[.string ByteArray.empty, .slice A x.list.length c] 26)).alloc (.cells cs0 9)) := ((Below.refl _ _).alloc (Nat.le_refl _) _).alloc (by simp) _
      have hw0 : Whole ((w.alloc (.cells #[.string ByteArray.empty, .slice A x.list.length c] 26)).alloc (.cells cs0 9)) (w.heap.size + 1) 9 cs0 := by
        have h := Whole.new (w.alloc (.cells #[.string ByteArray.empty, .slice A x.list.length c] 26)) 9 cs0
        simpa using h
      go_enter Try.func61, Try.ntmps61
      go_wp2
      clear km
      go_loopw [18] (fun iv wr => ∃ (k : Nat) (cs : Array Value), k ≤ x.list.length ∧ iv = .int .i64 k ∧ Whole wr (w.heap.size + 1) 9 cs ∧ cs.size = x.list.length ∧ FilledTo cs (SX.textL (x.list.take k)) ∧ Below (w.heap.size + 1) (w.alloc (.cells #[.string ByteArray.empty, .slice A x.list.length c] 26)) wr) (fun iv _ => x.list.length - (Go.RowKit.intOf iv).toNat)
      case atStart => exact ⟨0, cs0, Nat.zero_le _, rfl, hw0, HM.out, (by intro j s hj; simp [SX.textL] at hj), (Below.refl (w.heap.size + 1) (w.alloc (.cells #[.string ByteArray.empty, .slice A x.list.length c] 26))).alloc (by simp) _⟩
      case round =>
        obtain ⟨k, cs, hk, rfl, hwr, hcs, hfk, hb⟩ := hrel
        clear hw0 hb0
        have hbs : w.heap.size + 1 ≤ wr.heap.size := by simpa using hb.size
        obtain ⟨b0, b1, hbw⟩ := boxed (hb.mono (by simp))
        have HK := Lib.hid hfk
        have HC := Lib.hid hcs
        clear hfk hcs
        by_cases hlt : k < x.list.length
        · obtain ⟨b, o, A', c', rfl, hP, hc0, hc1, hl'⟩ := (boxedList HL.out (hb.mono (by simp))).at_ hlt
          have hst := SX.textL_take x.list k hlt
          have hx : x.list[k].nodes ≤ N := by have := SX.nodesL_at x.list k hlt; omega
          have hsm : x.list[k].wt + 3 * x.list[k].nodes ≤ 1048576 := by have := wt_nodes_at x.list k hlt; omega
          have hbe : Below wr.heap.size wr (wr.alloc (.cells #[.string x.list[k].atom, .slice A' x.list[k].list.length c'] 26)) := (Below.refl _ _).alloc (Nat.le_refl _) _
          have HG := Lib.hid (hl'.grow hbe)
          have HS := Lib.hid hst
          clear hst hl'
          go_wp2_with fail
          refine (ih x.list[k] A' c' _ hx hsm HG.out).mono ?_
          rintro e w1 ⟨rfl, hb1⟩
          have hbr := hbe.trans (hb1.mono hbe.size)
          have hw1 := hwr.below hbr hwr.lt
          have hb2 := hb.trans (hbr.mono hbs)
          have d0 : ∃ v, w1.cell? ⟨w.heap.size + 1, k, none⟩ = some v := by rw [hw1.cell]; exact ⟨_, Array.getElem?_eq_getElem (by rw [HC.out]; exact hlt)⟩
          obtain ⟨v0, d0⟩ := d0
          have f0 := hw1.frozen k
          have hk0 : (0 : Int) ≤ k := by omega
          have hfill : FilledTo (cs.setIfInBounds k (.string x.list[k].text)) (SX.textL (x.list.take (k + 1))) := by
            rw [HS.out]
            exact HK.out.snoc (by rw [SX.textL_length, List.length_take]; omega) (by rw [HC.out]; exact hlt)
          have HFI := Lib.hid hfill
          clear hfill
          go_wp2
          go_roundw
          case rel => exact ⟨k + 1, _, by omega, by go_num, hw1.set_ _ _, by rw [Array.size_setIfInBounds]; exact HC.out, HFI.out, hb2.setCell (by simp) _⟩
          case measure => simp [Go.RowKit.intOf]; omega
        · have hkl : k = x.list.length := by omega
          subst hkl
          have hf := HK.out
          rw [List.take_length] at hf
          have hfull := hf.full (by rw [HC.out, HTL.out])
          have hwf : Whole wr (w.heap.size + 1) 9 ((SX.textL x.list).map Value.string).toArray := by rw [← hfull]; exact hwr
          have hIJ := implJoin (w.heap.size + 1) (SX.textL x.list) ⟨#[32]⟩ wr hwf (by rw [HTL.out]; omega) (by have : (⟨#[32]⟩ : ByteArray).data.toList = [32] := rfl; rw [this]; omega)
          rw [HTL.out] at hIJ
          have HJ := Lib.hid hIJ
          clear hf hfull hwf hIJ hwr
          go_wp2_with fail
          refine HJ.out.mono ?_
          rintro e w1 ⟨rfl, hb1⟩
          have hb2 := hbw.trans (hb1.mono hbw.size)
          go_wp2
          go_ret
          exact ⟨ret_str (by rw [HT.out]), hb2⟩
    · rw [if_neg ha] at hte
      have HT := Lib.hid hte
      have hnem := nonempty_of ha
      clear hte hl
      go_enter Try.func61, Try.ntmps61
      go_wp2
      go_ret
      exact ⟨ret_str (by rw [HT.out]), (Below.refl _ _).alloc (Nat.le_refl _) _⟩

set_option maxRecDepth 100000 in
set_option maxHeartbeats 1000000 in
theorem implFormat (x : SX) (A : Option Addr) (c : Nat) (w : World) (_hm : x.nodes ≤ 4294967296) (hok : x.ok) (hl : ListAt w (Lt w.heap.size) A x.list) :
    Calls Try.prog 16 #[.agg #[.string x.atom, .slice A x.list.length c]] w fun e w' => e = .returned (.string x.said) ∧ Below w.heap.size w w' := by
  have hl0 := @boxed_grow w 26 x.atom A x.list.length c x.list hl
  have hb0 : Below w.heap.size w (w.alloc (.cells #[.string x.atom, .slice A x.list.length c] 26)) := (Below.refl _ _).alloc (Nat.le_refl _) _
  have HL := Lib.hid hl0
  clear hl hl0
  go_enter Try.func16, Try.ntmps16
  go_wp2_with fail
  refine (implValid x A c _ hok HL.out).mono ?_
  rintro e w1 ⟨rfl, hb1⟩
  have hb2 := hb0.trans (hb1.mono hb0.size)
  have hl1 := HL.out.grow hb1
  have hc0 := (boxed hb1).1
  have hc1 := (boxed hb1).2.1
  have HL1 := Lib.hid hl1
  clear hl1
  cases hv : x.valid with
  | true =>
    have hs : x.said = x.text := by rw [SX.said, if_pos hv]
    have hwt := SX.valid_wt hv
    have HS := Lib.hid hs
    clear hv hs
    go_wp2_with fail
    refine (fmtX _ x A c _ (Nat.le_refl _) hwt HL1.out).mono ?_
    rintro e w2 ⟨rfl, hb3⟩
    have hb4 := hb2.trans (hb3.mono hb2.size)
    go_wp2
    go_ret
    exact ⟨ret_str (by rw [HS.out]), hb4⟩
  | false =>
    have hs : x.said = ByteArray.empty := by rw [SX.said, if_neg (by rw [hv]; decide)]
    have HS := Lib.hid hs
    clear hv hs
    go_wp2
    go_ret
    exact ⟨ret_str (by rw [HS.out]; rfl), hb2⟩
end Go.Proofs.Ytbcfeoobhemdcaa
namespace Go.Proofs.Ytbcfeoobhemdcaa
open Go.RowKit Go.Lib

inductive Tok where
  | lp | rp | bad
  | word (l : List UInt8)
/-- A word that has ended; a byte that is none of a word. -/
def fl (l : List UInt8) : List Tok := if l = [] then [] else [.word l]
def mk1 (c : UInt8) : List Tok := if isW c then [] else if c = 40 then [.lp] else if c = 41 then [.rp] else [.bad]
/-- The tokens, a word under way. -/
def tk : List UInt8 → List UInt8 → List Tok
  | pend, [] => fl pend
  | pend, c :: r => if okByte c then tk (pend ++ [c]) r else fl pend ++ (mk1 c ++ tk [] r)
def tok (l : List UInt8) : List Tok := tk [] l
theorem fl_nil : fl [] = [] := rfl
theorem fl_some {l : List UInt8} (h : l ≠ []) : fl l = [.word l] := if_neg h
theorem tk_ok {pend r : List UInt8} {c : UInt8} (h : okByte c = true) : tk pend (c :: r) = tk (pend ++ [c]) r := by rw [tk, if_pos h]
theorem tk_no {pend r : List UInt8} {c : UInt8} (h : okByte c = false) : tk pend (c :: r) = fl pend ++ (mk1 c ++ tk [] r) := by rw [tk, if_neg (by rw [h]; decide)]
theorem tok_nil : tok [] = [] := rfl
theorem tk_word : ∀ (l pend : List UInt8), tk pend l = fl (pend ++ l.takeWhile okByte) ++ tok (l.dropWhile okByte)
  | [], pend => by simp [tk, tok, fl]
  | c :: r, pend => by
    cases h : okByte c with
    | true => rw [tk_ok h, tk_word r (pend ++ [c]), List.takeWhile_cons, if_pos h, List.dropWhile_cons, if_pos h]; simp
    | false => rw [List.takeWhile_cons, if_neg (by rw [h]; decide), List.dropWhile_cons, if_neg (by rw [h]; decide), tok, tk_no h, tk_no h]; simp [fl_nil]
/-- Cut at a byte that is none of a word. -/
theorem tk_cut {c : UInt8} (h : okByte c = false) : ∀ (l pend r : List UInt8), tk pend (l ++ c :: r) = tk pend l ++ (mk1 c ++ tok r)
  | [], pend, r => by rw [List.nil_append, tk_no h]; rfl
  | d :: l, pend, r => by
    cases hd : okByte d with
    | true => rw [List.cons_append, tk_ok hd, tk_ok hd, tk_cut h l _ r]
    | false => rw [List.cons_append, tk_no hd, tk_no hd, tk_cut h l [] r]; simp
theorem white_no {c : UInt8} (h : isW c = true) : okByte c = false := by
  rw [isW, Bool.or_eq_true, beq_iff_eq, beq_iff_eq] at h
  rcases h with rfl | rfl <;> rfl
theorem mk1_white {c : UInt8} (h : isW c = true) : mk1 c = [] := if_pos h
theorem tok_skip : ∀ (l : List UInt8), tok (skipW l) = tok l
  | [] => rfl
  | c :: r => by
    cases h : isW c with
    | true => rw [skipW_yes h, tok_skip r]; conv => rhs; rw [tok, tk_no (white_no h), mk1_white h]
              rfl
    | false => rw [skipW_no h]
theorem mk1_not {c : UInt8} (h : isW c = false) : mk1 c ≠ [] := by
  rw [mk1, if_neg (by rw [h]; decide)]
  split
  · simp
  · split <;> simp
theorem tok_end {l : List UInt8} (h : tok l = []) : skipW l = [] := by
  rw [← tok_skip] at h
  cases hs : skipW l with
  | nil => rfl
  | cons c r =>
    have hw := skipW_head (l := l) (c := c) (by rw [hs]; rfl)
    rw [hs] at h
    cases hc : okByte c with
    | true =>
      rw [tok, tk_ok hc, tk_word] at h
      rw [fl_some (by simp)] at h
      simp at h
    | false =>
      rw [tok, tk_no hc, fl_nil] at h
      simp at h
      exact absurd h.1 (mk1_not hw)

mutual
/-- An expression's tokens. -/
def xt : SX → List Tok
  | .mk a l => if a.size = 0 then .lp :: (xtL l ++ [.rp]) else [.word a.data.toList]
def xtL : List SX → List Tok
  | [] => []
  | x :: r => xt x ++ xtL r
end
theorem xt_list {a : ByteArray} {l : List SX} (h : a.size = 0) : xt (.mk a l) = .lp :: (xtL l ++ [.rp]) := by rw [xt, if_pos h]
theorem xt_word {a : ByteArray} {l : List SX} (h : ¬ a.size = 0) : xt (.mk a l) = [.word a.data.toList] := by rw [xt, if_neg h]
theorem xtL_snoc : ∀ (l : List SX) (x : SX), xtL (l ++ [x]) = xtL l ++ xt x
  | [], x => by simp [xtL]
  | y :: r, x => by rw [List.cons_append, xtL, xtL, xtL_snoc r x, List.append_assoc]
theorem xt_head (x : SX) : ∃ t ts, xt x = t :: ts ∧ t ≠ .rp := by
  cases x with
  | mk a l =>
    by_cases h : a.size = 0
    · exact ⟨.lp, _, xt_list h, by simp⟩
    · exact ⟨_, [], xt_word h, by simp⟩
/-- What a first token says of the text. -/
theorem tok_lp {l : List UInt8} {ts : List Tok} (h : tok l = .lp :: ts) : ∃ r, skipW l = 40 :: r ∧ tok r = ts := by
  rw [← tok_skip] at h
  cases hs : skipW l with
  | nil => rw [hs] at h; simp [tok_nil] at h
  | cons c r =>
    have hw := skipW_head (l := l) (c := c) (by rw [hs]; rfl)
    rw [hs] at h
    cases hc : okByte c with
    | true =>
      rw [tok, tk_ok hc, tk_word, fl_some (by simp)] at h
      simp at h
    | false =>
      rw [tok, tk_no hc, fl_nil, List.nil_append, mk1, if_neg (by rw [hw]; decide)] at h
      by_cases h40 : c = 40
      · subst h40
        simp at h
        exact ⟨r, rfl, h⟩
      · rw [if_neg h40] at h
        split at h <;> simp at h
theorem tok_rp {l : List UInt8} {ts : List Tok} (h : tok l = .rp :: ts) : ∃ r, skipW l = 41 :: r ∧ tok r = ts := by
  rw [← tok_skip] at h
  cases hs : skipW l with
  | nil => rw [hs] at h; simp [tok_nil] at h
  | cons c r =>
    have hw := skipW_head (l := l) (c := c) (by rw [hs]; rfl)
    rw [hs] at h
    cases hc : okByte c with
    | true =>
      rw [tok, tk_ok hc, tk_word, fl_some (by simp)] at h
      simp at h
    | false =>
      rw [tok, tk_no hc, fl_nil, List.nil_append, mk1, if_neg (by rw [hw]; decide)] at h
      by_cases h40 : c = 40
      · subst h40
        simp at h
      · rw [if_neg h40] at h
        by_cases h41 : c = 41
        · subst h41
          simp at h
          exact ⟨r, rfl, h⟩
        · rw [if_neg h41] at h
          simp at h
theorem tok_word {l a : List UInt8} {ts : List Tok} (h : tok l = .word a :: ts) : (skipW l).takeWhile okByte = a ∧ a ≠ [] ∧ tok ((skipW l).dropWhile okByte) = ts := by
  rw [← tok_skip, tok, tk_word, List.nil_append] at h
  by_cases he : (skipW l).takeWhile okByte = []
  · rw [he, fl_nil, List.nil_append] at h
    cases hs : skipW l with
    | nil => rw [hs] at h; simp [tok_nil] at h
    | cons c r =>
      have hw := skipW_head (l := l) (c := c) (by rw [hs]; rfl)
      have hc : okByte c = false := by
        cases hc : okByte c with
        | false => rfl
        | true => rw [hs, List.takeWhile_cons, if_pos hc] at he; simp at he
      rw [hs, List.dropWhile_cons, if_neg (by rw [hc]; decide), tok, tk_no hc, fl_nil, List.nil_append, mk1, if_neg (by rw [hw]; decide)] at h
      split at h
      · simp at h
      · split at h <;> simp at h
  · rw [fl_some he] at h
    simp at h
    exact ⟨h.1, by rw [← h.1]; exact he, h.2⟩
theorem tok_of_lp {l r : List UInt8} (h : skipW l = 40 :: r) : tok l = .lp :: tok r := by
  rw [← tok_skip, h, tok, tk_no (by rfl), fl_nil]; rfl
theorem tok_of_rp {l r : List UInt8} (h : skipW l = 41 :: r) : tok l = .rp :: tok r := by
  rw [← tok_skip, h, tok, tk_no (by rfl), fl_nil]; rfl
theorem tok_of_word {l : List UInt8} (h : (skipW l).takeWhile okByte ≠ []) : tok l = .word ((skipW l).takeWhile okByte) :: tok ((skipW l).dropWhile okByte) := by
  rw [← tok_skip, tok, tk_word, List.nil_append, fl_some h]; rfl
end Go.Proofs.Ytbcfeoobhemdcaa
namespace Go.Proofs.Ytbcfeoobhemdcaa
open Go.RowKit Go.Lib

mutual
/-- In form, but for the words' lengths. -/
def SX.wf : SX → Bool
  | .mk a l => if a.size = 0 then SX.wfL l else a.data.toList.all okByte && decide (l.length = 0)
def SX.wfL : List SX → Bool
  | [] => true
  | x :: r => x.wf && SX.wfL r
end
mutual
theorem SX.form_wf : ∀ (x : SX), x.form = true → x.wf = true
  | .mk a l => fun h => by
    rw [SX.form] at h
    rw [SX.wf]
    split at h
    · rename_i h0; rw [if_pos h0]; exact SX.formL_wf l h
    · rename_i h0
      rw [if_neg h0]
      rw [Bool.and_eq_true, okAtom, Bool.and_eq_true] at h
      rw [h.1.1, h.2]; rfl
theorem SX.formL_wf : ∀ (l : List SX), SX.formL l = true → SX.wfL l = true
  | [], _ => rfl
  | x :: r, h => by
    rw [SX.formL, Bool.and_eq_true] at h
    rw [SX.wfL, SX.form_wf x h.1, SX.formL_wf r h.2]; rfl
end
theorem wfL_snoc : ∀ (l : List SX) (x : SX), SX.wfL (l ++ [x]) = (SX.wfL l && x.wf)
  | [], x => by simp [SX.wfL]
  | y :: r, x => by rw [List.cons_append, SX.wfL, SX.wfL, wfL_snoc r x, Bool.and_assoc]

mutual
theorem readX_sound : ∀ (n : Nat) (l : List UInt8) (d z : Nat) {x : SX} {r : List UInt8} {z' : Nat}, d ≤ 14 → readX n l d z = some (x, r, z') → tok l = xt x ++ tok r ∧ z' = z + x.nodes ∧ d + x.depth ≤ 14 ∧ x.wf = true
  | 0, _, _, _, _, _, _, _, h => by rw [readX] at h; cases h
  | n + 1, l, d, z, x, r, z', hd, h => by
    rw [readX] at h
    split at h
    · cases h
    · split at h
      · rename_i h1 h2
        injection h with h; injection h with h h'; injection h' with h' h''
        subst h h' h''
        have hsz : ¬ (⟨((skipW l).takeWhile okByte).toArray⟩ : ByteArray).size = 0 := by
          show ¬ ((skipW l).takeWhile okByte).toArray.size = 0
          have := List.length_pos_iff.2 h2
          simp at this ⊢
          intro e
          exact h2 (List.eq_nil_of_length_eq_zero (by simp [e]))
        refine ⟨?_, ?_, ?_, ?_⟩
        · rw [tok_of_word h2, xt_word hsz]; rfl
        · rw [SX.nodes, SX.nodesL]
        · rw [SX.depth, if_neg hsz]; omega
        · rw [SX.wf, if_neg hsz]
          simp
      · split at h
        · cases h
        · rename_i h1 h2 h3
          have hne : skipW l ≠ [] := fun e => h1 (.inl e)
          have h40 : (skipW l).head? = some 40 := Decidable.not_not.1 fun e => h3 (.inl e)
          have h14 : d ≠ 14 := fun e => h3 (.inr e)
          obtain ⟨c, t, hs⟩ := List.exists_cons_of_ne_nil hne
          rw [hs] at h40 h
          injection h40 with h40
          subst h40
          obtain ⟨es, rfl, e1, e2, e3, e4⟩ := readL_sound n _ (d + 1) (z + 1) [] (by omega) h
          rw [List.tail_cons] at e1
          refine ⟨?_, ?_, ?_, ?_⟩
          · rw [tok_of_lp hs, e1, List.nil_append, xt_list (by rfl)]; simp
          · rw [e2, List.nil_append, SX.nodes]; omega
          · rw [List.nil_append, SX.depth, if_pos (by rfl)]; omega
          · rw [List.nil_append, SX.wf, if_pos (by rfl)]; exact e4
theorem readL_sound : ∀ (n : Nat) (l : List UInt8) (d z : Nat) (acc : List SX) {x : SX} {r : List UInt8} {z' : Nat}, d ≤ 14 → readL n l d z acc = some (x, r, z') →
    ∃ es, x = .mk ByteArray.empty (acc ++ es) ∧ tok l = xtL es ++ .rp :: tok r ∧ z' = z + SX.nodesL es ∧ d + SX.depthL es ≤ 14 ∧ SX.wfL es = true
  | 0, _, _, _, _, _, _, _, _, h => by rw [readL] at h; cases h
  | n + 1, l, d, z, acc, x, r, z', hd, h => by
    rw [readL] at h
    split at h
    · rename_i h1
      injection h with h; injection h with h h'; injection h' with h' h''
      subst h h' h''
      have hne : skipW l ≠ [] := fun e => by rw [e] at h1; cases h1
      obtain ⟨c, t, hs⟩ := List.exists_cons_of_ne_nil hne
      rw [hs] at h1 ⊢
      injection h1 with h1
      subst h1
      exact ⟨[], by rw [List.append_nil], by rw [tok_of_rp hs]; rfl, by rw [SX.nodesL]; rfl, by rw [SX.depthL]; omega, rfl⟩
    · split at h
      · cases h
      · rename_i y rest' z1 h1
        obtain ⟨a1, a2, a3, a4⟩ := readX_sound n _ d z hd h1
        obtain ⟨es, rfl, e1, e2, e3, e4⟩ := readL_sound n _ d _ _ hd h
        rw [tok_skip] at a1
        refine ⟨y :: es, by simp, ?_, ?_, ?_, ?_⟩
        · rw [a1, e1, xtL]; simp
        · rw [e2, a2, SX.nodesL]; omega
        · rw [SX.depthL]; omega
        · rw [SX.wfL, a4, e4]; rfl
end

theorem wf_word {a : ByteArray} {l : List SX} (h : ¬ a.size = 0) (hw : (SX.mk a l).wf = true) : l = [] ∧ a.data.toList.all okByte = true := by
  rw [SX.wf, if_neg h, Bool.and_eq_true, decide_eq_true_eq] at hw
  exact ⟨List.eq_nil_of_length_eq_zero hw.2, hw.1⟩
theorem skip_len (l : List UInt8) : (skipW l).length ≤ l.length := skipW_le l

mutual
theorem readX_full : ∀ (n : Nat) (l : List UInt8) (d z : Nat) (x : SX) (ts : List Tok), 2 * l.length + 1 ≤ n → d + x.depth ≤ 14 → z + x.nodes ≤ 900 → x.wf = true → tok l = xt x ++ ts → ∃ r, readX n l d z = some (x, r, z + x.nodes) ∧ tok r = ts
  | 0, _, _, _, _, _, hn, _, _, _, _ => by omega
  | n + 1, l, d, z, .mk a es, ts, hn, hd, hz, hw, ht => by
    have hnod := SX.nodes_eq (.mk a es)
    simp only [SX.list] at hnod
    have hl := skip_len l
    by_cases ha : a.size = 0
    · obtain rfl := empty_of ha
      rw [xt_list ha, List.cons_append] at ht
      obtain ⟨r, hs, hr⟩ := tok_lp ht
      rw [SX.depth, if_pos ha] at hd
      rw [SX.wf, if_pos ha] at hw
      rw [hs, List.length_cons] at hl
      obtain ⟨r', h1, h2⟩ := readL_full n r (d + 1) (z + 1) [] es ts (by omega) (by omega) (by omega) hw (by rw [hr]; simp)
      refine ⟨r', ?_, h2⟩
      rw [readX, hs, if_neg (by simp; omega), if_neg (by simp [show okByte 40 = false from rfl]), if_neg (by simp; omega), List.tail_cons, h1, hnod]
      simp
      omega
    · obtain ⟨rfl, hall⟩ := wf_word ha hw
      rw [xt_word ha] at ht
      obtain ⟨h1, h2, h3⟩ := tok_word ht
      refine ⟨_, ?_, h3⟩
      have hne : skipW l ≠ [] := fun e => by rw [e] at h1; exact h2 h1.symm
      rw [readX, if_neg (by rintro (e | e); exact hne e; rw [hnod, SX.nodesL] at hz; omega), if_pos (by rw [h1]; exact h2), h1, hnod, SX.nodesL]
theorem readL_full : ∀ (n : Nat) (l : List UInt8) (d z : Nat) (acc es : List SX) (ts : List Tok), 2 * l.length + 2 ≤ n → d + SX.depthL es ≤ 14 → z + SX.nodesL es ≤ 900 → SX.wfL es = true → tok l = xtL es ++ .rp :: ts →
    ∃ r, readL n l d z acc = some (.mk ByteArray.empty (acc ++ es), r, z + SX.nodesL es) ∧ tok r = ts
  | 0, _, _, _, _, _, _, hn, _, _, _, _ => by omega
  | n + 1, l, d, z, acc, [], ts, hn, hd, hz, hw, ht => by
    rw [xtL, List.nil_append] at ht
    obtain ⟨r, hs, hr⟩ := tok_rp ht
    refine ⟨r, ?_, hr⟩
    rw [readL, hs, if_pos (by rfl), List.append_nil, SX.nodesL]; rfl
  | n + 1, l, d, z, acc, y :: es, ts, hn, hd, hz, hw, ht => by
    have hl := skip_len l
    rw [SX.depthL] at hd
    rw [SX.nodesL] at hz
    rw [SX.wfL, Bool.and_eq_true] at hw
    rw [xtL, List.append_assoc] at ht
    obtain ⟨r, h1, h2⟩ := readX_full n (skipW l) d z y (xtL es ++ .rp :: ts) (by omega) (by omega) (by omega) hw.1 (by rw [tok_skip]; exact ht)
    have hless := readX_less n _ _ _ h1
    obtain ⟨r', h3, h4⟩ := readL_full n r d (z + y.nodes) (acc ++ [y]) es ts (by omega) (by omega) (by omega) hw.2 h2
    refine ⟨r', ?_, h4⟩
    have hno : ¬ (skipW l).head? = some 41 := by
      intro e
      have hne : skipW l ≠ [] := fun e0 => by rw [e0] at e; cases e
      obtain ⟨c, t, hs⟩ := List.exists_cons_of_ne_nil hne
      rw [hs] at e
      injection e with e
      subst e
      rw [tok_of_rp hs] at ht
      obtain ⟨t0, ts0, hx, hne2⟩ := xt_head y
      rw [hx] at ht
      injection ht with ht _
      exact hne2 ht.symm
    rw [readL, if_neg hno, h1]
    simp only
    rw [h3, SX.nodesL]
    simp
    omega
end

/-- What the reference model's reader answers. -/
def specP (l : List UInt8) : Option SX :=
  match readX (2 * l.length + 1) l 0 0 with
  | none => none
  | some (x, r, _) => if skipW r = [] ∧ x.valid = true then some x else none
theorem specP_iff (l : List UInt8) (x : SX) : specP l = some x ↔ tok l = xt x ∧ x.valid = true := by
  rw [specP]
  constructor
  · intro h
    split at h
    · cases h
    · rename_i y r z' h1
      split at h
      · rename_i h2
        injection h with h
        subst h
        obtain ⟨a1, _, _, _⟩ := readX_sound _ _ _ _ (by omega) h1
        refine ⟨?_, h2.2⟩
        rw [a1, ← tok_skip r, h2.1, tok_nil, List.append_nil]
      · cases h
  · rintro ⟨h1, h2⟩
    obtain ⟨v1, v2, v3⟩ := SX.valid_iff.1 h2
    obtain ⟨r, h3, h4⟩ := readX_full (2 * l.length + 1) l 0 0 x [] (Nat.le_refl _) (by omega) (by omega) (SX.form_wf x v2) (by rw [List.append_nil]; exact h1)
    rw [h3]
    simp only
    rw [if_pos ⟨tok_end h4, h2⟩]
end Go.Proofs.Ytbcfeoobhemdcaa
namespace Go.Proofs.Ytbcfeoobhemdcaa
open Go.RowKit Go.Lib

/-- The lists that are not closed yet, the innermost apart and first; how many expressions were read. -/
structure St where
  ini : List (List SX)
  top : List SX
  z : Nat
def addS (x : SX) (S : St) : Option St := if S.z + 1 ≤ 900 then some ⟨S.ini, S.top ++ [x], S.z + 1⟩ else none
def wordS (a : List UInt8) (S : St) : Option St := if a = [] then some S else if okAtom ⟨a.toArray⟩ then addS (.mk ⟨a.toArray⟩ []) S else none
def markS (c : UInt8) (S : St) : Option St :=
  if isW c then some S
  else if c = 40 then (if 14 < S.ini.length + 1 then none else some ⟨S.top :: S.ini, [], S.z⟩)
  else if c = 41 then (match S.ini with | [] => none | t :: r => addS (.mk ByteArray.empty S.top) ⟨r, t, S.z⟩)
  else none
/-- Over the bytes, a word under way. -/
def runS : List UInt8 → List UInt8 → St → Option St
  | pend, [], S => wordS pend S
  | pend, c :: r, S => if okByte c then runS (pend ++ [c]) r S else (wordS pend S).bind fun S1 => (markS c S1).bind fun S2 => runS [] r S2
/-- Over the tokens. -/
def stepT : Tok → St → Option St
  | .word a, S => if okAtom ⟨a.toArray⟩ then addS (.mk ⟨a.toArray⟩ []) S else none
  | .lp, S => if 14 < S.ini.length + 1 then none else some ⟨S.top :: S.ini, [], S.z⟩
  | .rp, S => match S.ini with | [] => none | t :: r => addS (.mk ByteArray.empty S.top) ⟨r, t, S.z⟩
  | .bad, _ => none
def runT : List Tok → St → Option St
  | [], S => some S
  | t :: r, S => (stepT t S).bind fun S1 => runT r S1
theorem runT_append : ∀ (a b : List Tok) (S : St), runT (a ++ b) S = (runT a S).bind fun S1 => runT b S1
  | [], b, S => rfl
  | t :: r, b, S => by
    rw [List.cons_append, runT, runT]
    cases stepT t S with
    | none => rfl
    | some S1 => exact runT_append r b S1
theorem runT_fl (a : List UInt8) (S : St) : runT (fl a) S = wordS a S := by
  by_cases h : a = []
  · subst h; rfl
  · rw [fl_some h, runT, wordS, if_neg h, stepT]
    cases (if okAtom ⟨a.toArray⟩ = true then addS (.mk ⟨a.toArray⟩ []) S else none) <;> rfl
theorem runT_mk1 (c : UInt8) (S : St) : runT (mk1 c) S = markS c S := by
  rw [mk1, markS]
  split
  · rfl
  · split
    · rw [runT, stepT]
      cases (if 14 < S.ini.length + 1 then none else some (⟨S.top :: S.ini, [], S.z⟩ : St)) <;> rfl
    · split
      · rw [runT, stepT]
        cases (match S.ini with | [] => none | t :: r => addS (.mk ByteArray.empty S.top) ⟨r, t, S.z⟩) <;> rfl
      · rw [runT, stepT]; rfl
theorem run_eq : ∀ (l pend : List UInt8) (S : St), runS pend l S = runT (tk pend l) S
  | [], pend, S => by rw [runS, tk, runT_fl]
  | c :: r, pend, S => by
    cases h : okByte c with
    | true => rw [runS, if_pos h, tk_ok h, run_eq r]
    | false =>
      rw [runS, if_neg (by rw [h]; decide), tk_no h, runT_append, runT_fl]
      cases wordS pend S with
      | none => rfl
      | some S1 =>
        simp only [Option.bind_some]
        rw [runT_append, runT_mk1]
        cases markS c S1 with
        | none => rfl
        | some S2 => simp only [Option.bind_some]; exact run_eq r [] S2

mutual
theorem runT_x : ∀ (x : SX) (ini : List (List SX)) (top : List SX) (z : Nat), x.form = true → ini.length + x.depth ≤ 14 → z + x.nodes ≤ 900 → runT (xt x) ⟨ini, top, z⟩ = some ⟨ini, top ++ [x], z + x.nodes⟩
  | .mk a l, ini, top, z, hf, hd, hz => by
    have hnod := SX.nodes_eq (.mk a l)
    simp only [SX.list] at hnod
    rw [SX.form] at hf
    rw [SX.depth] at hd
    by_cases ha : a.size = 0
    · rw [if_pos ha] at hf hd
      obtain rfl := empty_of ha
      rw [xt_list ha, runT, stepT, if_neg (by simp only; omega)]
      simp only [Option.bind_some]
      rw [runT_append, runT_l l _ _ _ hf (by simp; omega) (by omega)]
      simp only [Option.bind_some, List.nil_append]
      rw [runT, stepT]
      simp only
      rw [addS, if_pos (by simp only; omega)]
      simp only [Option.bind_some]
      rw [runT, hnod]
      simp
      omega
    · rw [if_neg ha, Bool.and_eq_true, decide_eq_true_eq] at hf
      obtain rfl := List.eq_nil_of_length_eq_zero hf.2
      rw [xt_word ha, runT, stepT, if_pos hf.1, addS, if_pos (by rw [hnod, SX.nodesL] at hz; simp only; omega)]
      simp only [Option.bind_some]
      rw [runT, hnod, SX.nodesL]
theorem runT_l : ∀ (l : List SX) (ini : List (List SX)) (top : List SX) (z : Nat), SX.formL l = true → ini.length + SX.depthL l ≤ 14 → z + SX.nodesL l ≤ 900 → runT (xtL l) ⟨ini, top, z⟩ = some ⟨ini, top ++ l, z + SX.nodesL l⟩
  | [], ini, top, z, _, _, _ => by rw [xtL, runT, SX.nodesL]; simp
  | x :: r, ini, top, z, hf, hd, hz => by
    rw [SX.formL, Bool.and_eq_true] at hf
    rw [SX.depthL] at hd
    rw [SX.nodesL] at hz
    rw [xtL, runT_append, runT_x x ini top z hf.1 (by omega) (by omega)]
    simp only [Option.bind_some]
    rw [runT_l r ini _ _ hf.2 (by omega) (by omega), SX.nodesL]
    simp
    omega
end

/-- The tokens that a state has read. -/
def spT : List (List SX) → List Tok
  | [] => []
  | t :: r => spT r ++ xtL t ++ [.lp]
/-- What holds of a state: the nodes counted; in form; within the depth. -/
def okI : List (List SX) → Prop
  | [] => True
  | t :: r => SX.formL t = true ∧ r.length + SX.depthL t ≤ 14 ∧ okI r
def nI : List (List SX) → Nat
  | [] => 0
  | t :: r => SX.nodesL t + nI r
structure Ok (S : St) : Prop where
  form : SX.formL S.top = true
  depth : S.ini.length + SX.depthL S.top ≤ 14
  ini : okI S.ini
  nodes : S.z = SX.nodesL S.top + nI S.ini
  most : S.z ≤ 900
theorem formL_snoc : ∀ (l : List SX) (x : SX), SX.formL (l ++ [x]) = (SX.formL l && x.form)
  | [], x => by simp [SX.formL]
  | y :: r, x => by rw [List.cons_append, SX.formL, SX.formL, formL_snoc r x, Bool.and_assoc]
theorem depthL_snoc : ∀ (l : List SX) (x : SX), SX.depthL (l ++ [x]) = max (SX.depthL l) x.depth
  | [], x => by simp [SX.depthL]
  | y :: r, x => by rw [List.cons_append, SX.depthL, SX.depthL, depthL_snoc r x]; omega
theorem nodesL_snoc : ∀ (l : List SX) (x : SX), SX.nodesL (l ++ [x]) = SX.nodesL l + x.nodes
  | [], x => by simp [SX.nodesL]
  | y :: r, x => by rw [List.cons_append, SX.nodesL, SX.nodesL, nodesL_snoc r x]; omega
theorem add_ok {x : SX} {ini : List (List SX)} {top : List SX} {z : Nat} {S' : St} (h : addS x ⟨ini, top, z⟩ = some S') (h1 : SX.formL top = true) (h2 : ini.length + SX.depthL top ≤ 14) (h3 : okI ini) (h4 : z + 1 = SX.nodesL top + x.nodes + nI ini) (hx : x.form = true) (hd : ini.length + x.depth ≤ 14) :
    Ok S' ∧ S'.ini = ini ∧ S'.top = top ++ [x] := by
  rw [addS] at h
  split at h
  · rename_i hz
    injection h with h
    subst h
    refine ⟨⟨by simp only; rw [formL_snoc, h1, hx]; rfl, by simp only; rw [depthL_snoc]; omega, h3, by simp only; rw [nodesL_snoc]; omega, hz⟩, rfl, rfl⟩
  · cases h
theorem step_sound {t : Tok} {S S' : St} (h : stepT t S = some S') (hk : Ok S) : Ok S' ∧ spT S.ini ++ xtL S.top ++ [t] = spT S'.ini ++ xtL S'.top := by
  obtain ⟨ini, top, z⟩ := S
  obtain ⟨k1, k2, k3, k4, k5⟩ := hk
  simp only at k1 k2 k3 k4 k5
  cases t with
  | bad => rw [stepT] at h; cases h
  | word a =>
    rw [stepT] at h
    split at h
    · rename_i ha
      have hsz : ¬ (⟨a.toArray⟩ : ByteArray).size = 0 := by
        rw [okAtom, Bool.and_eq_true, decide_eq_true_eq] at ha; omega
      obtain ⟨h1, h2, h3⟩ := add_ok h k1 k2 k3 (by rw [SX.nodes, SX.nodesL]; omega) (by rw [SX.form, if_neg hsz, ha]; rfl) (by rw [SX.depth, if_neg hsz]; omega)
      refine ⟨h1, ?_⟩
      rw [h2, h3, xtL_snoc, xt_word hsz]
      simp
    · cases h
  | lp =>
    rw [stepT] at h
    split at h
    · cases h
    · rename_i hd
      injection h with h
      subst h
      refine ⟨⟨rfl, by simp [SX.depthL]; simp only at hd; omega, ⟨k1, k2, k3⟩, by simp [SX.nodesL, nI]; omega, k5⟩, ?_⟩
      simp only [spT, xtL]
      simp
  | rp =>
    rw [stepT] at h
    simp only at h
    match ini, h, k2, k3, k4 with
    | [], h, _, _, _ => cases h
    | t :: r, h, k2, k3, k4 =>
      obtain ⟨o1, o2, o3⟩ := k3
      rw [List.length_cons] at k2
      rw [nI] at k4
      obtain ⟨h1, h2, h3⟩ := add_ok h o1 o2 o3 (by rw [SX.nodes]; omega) (by rw [SX.form, if_pos (by rfl)]; exact k1) (by rw [SX.depth, if_pos (by rfl)]; omega)
      refine ⟨h1, ?_⟩
      rw [h2, h3, xtL_snoc, xt_list (by rfl)]
      simp only [spT]
      simp
theorem run_sound : ∀ (ts : List Tok) {S S' : St}, runT ts S = some S' → Ok S → Ok S' ∧ spT S.ini ++ xtL S.top ++ ts = spT S'.ini ++ xtL S'.top
  | [], S, S', h, hk => by
    rw [runT] at h
    injection h with h
    subst h
    exact ⟨hk, by simp⟩
  | t :: r, S, S', h, hk => by
    rw [runT] at h
    obtain ⟨S1, h1, h2⟩ := Option.bind_eq_some_iff.1 h
    obtain ⟨k1, e1⟩ := step_sound h1 hk
    obtain ⟨k2, e2⟩ := run_sound r h2 k1
    refine ⟨k2, ?_⟩
    rw [← e2, ← e1]
    simp

def st0 : St := ⟨[], [], 0⟩
theorem st0_ok : Ok st0 := ⟨rfl, by simp [st0, SX.depthL], trivial, by simp [st0, SX.nodesL, nI], by simp [st0]⟩
/-- What the program's reader answers. -/
def endS : Option St → Option SX
  | some ⟨[], [x], _⟩ => some x
  | _ => none
def implP (l : List UInt8) : Option SX := endS (runS [] l st0)
theorem implP_iff (l : List UInt8) (x : SX) : implP l = some x ↔ tok l = xt x ∧ x.valid = true := by
  rw [implP, run_eq]
  change endS (runT (tok l) st0) = some x ↔ _
  constructor
  · intro h
    cases hr : runT (tok l) st0 with
    | none => rw [hr] at h; cases h
    | some S =>
      rw [hr] at h
      obtain ⟨ini, top, z⟩ := S
      obtain ⟨hk, he⟩ := run_sound _ hr st0_ok
      match ini, top, h, hk, he with
      | [], [y], h, hk, he =>
        injection h with h
        subst h
        obtain ⟨k1, k2, k3, k4, k5⟩ := hk
        simp only [SX.formL, SX.depthL, SX.nodesL, nI, Bool.and_true] at k1 k2 k4 k5
        refine ⟨?_, SX.valid_iff.2 ⟨by omega, k1, by simp at k2; omega⟩⟩
        simpa [st0, spT, xtL] using he
      | [], [], h, _, _ => cases h
      | [], _ :: _ :: _, h, _, _ => cases h
      | _ :: _, _, h, _, _ => cases h
  · rintro ⟨h1, h2⟩
    obtain ⟨v1, v2, v3⟩ := SX.valid_iff.1 h2
    rw [h1, st0, runT_x x [] [] 0 v2 (by simpa using v3) (by omega)]
    rfl
theorem impl_spec (l : List UInt8) : implP l = specP l := by
  apply Option.ext
  intro x
  rw [implP_iff, specP_iff]
end Go.Proofs.Ytbcfeoobhemdcaa

/- The laws' own helpers over an expression's rows: marking every element; that the marks are held. -/
import Derived.Test.YtfcedkcfnifdfaaMarkText
import Derived.Test.YtfcedkcfnifdfaaOw
import Derived.Lib.QuietBelow
namespace Go.Proofs.Ytfcedkcfnifdfaa
open Go.RowKit Go.Lib

mutual
/-- An expression marked from k on. -/
def SX.mrk (k : Nat) : SX → SX
  | .mk _ l => .mk (mark k) (mrkL (k + 1) l)
def mrkL (k : Nat) : List SX → List SX
  | [] => []
  | x :: r => x.mrk k :: mrkL (k + x.nodes) r
end
theorem mrk_eq (k : Nat) (x : SX) : x.mrk k = .mk (mark k) (mrkL (k + 1) x.list) := by cases x; rw [SX.mrk]; rfl
theorem mrkL_length : ∀ (l : List SX) (k : Nat), (mrkL k l).length = l.length
  | [], _ => by rw [mrkL]
  | x :: r, k => by rw [mrkL, List.length_cons, List.length_cons, mrkL_length r]
theorem mrkL_take : ∀ (l : List SX) (k i : Nat) (h : i < l.length), mrkL k (l.take (i + 1)) = mrkL k (l.take i) ++ [l[i].mrk (k + SX.nodesL (l.take i))]
  | x :: r, k, 0, _ => by simp [mrkL, SX.nodesL]
  | x :: r, k, i + 1, h => by
    rw [List.take_succ_cons, List.take_succ_cons, mrkL, mrkL, mrkL_take r _ i (by simpa using h), SX.nodesL]
    simp [Nat.add_assoc]
theorem mrkL_at : ∀ (l : List SX) (k i : Nat) (h : i < l.length), (mrkL k l)[i]? = some (l[i].mrk (k + SX.nodesL (l.take i)))
  | x :: r, k, 0, _ => by simp [mrkL, SX.nodesL]
  | x :: r, k, i + 1, h => by
    rw [mrkL, List.getElem?_cons_succ, mrkL_at r _ i (by simpa using h), List.take_succ_cons, SX.nodesL]
    simp [Nat.add_assoc]
theorem nodesL_step : ∀ (l : List SX) (j : Nat) (h : j < l.length), SX.nodesL (l.take (j + 1)) = SX.nodesL (l.take j) + l[j].nodes
  | x :: r, 0, _ => by simp [SX.nodesL]
  | x :: r, j + 1, h => by
    have := nodesL_step r j (by simpa using h)
    rw [List.take_succ_cons, List.take_succ_cons, SX.nodesL, SX.nodesL, this]
    simp; omega
theorem nodesL_part : ∀ (l : List SX) (j : Nat), SX.nodesL (l.take j) ≤ SX.nodesL l
  | [], j => by simp
  | x :: r, 0 => by simp [SX.nodesL]
  | x :: r, j + 1 => by
    have := nodesL_part r j
    rw [List.take_succ_cons, SX.nodesL, SX.nodesL]; omega
theorem nodesL_count : ∀ (l : List SX), l.length ≤ SX.nodesL l
  | [] => by simp [SX.nodesL]
  | x :: r => by have := nodesL_count r; have := SX.nodes_eq x; rw [SX.nodesL, List.length_cons]; omega

/-- All blocks but these are as they were. -/
structure ButL (bs : List Nat) (w w' : World) : Prop where
  os : w'.os = w.os
  tape : w'.tape = w.tape
  output : w'.output = w.output
  size : w.heap.size ≤ w'.heap.size
  block : ∀ b, b < w.heap.size → b ∉ bs → w'.heap[b]? = w.heap[b]?
theorem ButL.refl (bs : List Nat) (w : World) : ButL bs w w := ⟨rfl, rfl, rfl, Nat.le_refl _, fun _ _ _ => rfl⟩
theorem ButL.trans {bs : List Nat} {a b c : World} (h : ButL bs a b) (k : ButL bs b c) : ButL bs a c :=
  ⟨k.os.trans h.os, k.tape.trans h.tape, k.output.trans h.output, Nat.le_trans h.size k.size, fun i hi hn => (k.block i (Nat.lt_of_lt_of_le hi h.size) hn).trans (h.block i hi hn)⟩
theorem ButL.of_below {bs : List Nat} {w w' : World} (h : Below w.heap.size w w') : ButL bs w w' := ⟨h.os, h.tape, h.output, h.size, fun b hb _ => h.block b hb⟩
theorem ButL.more {bs cs : List Nat} {w w' : World} (h : ButL bs w w') (hs : ∀ b ∈ bs, b ∈ cs) : ButL cs w w' := ⟨h.os, h.tape, h.output, h.size, fun b hb hn => h.block b hb fun hm => hn (hs b hm)⟩

theorem OwE_split {w : World} {B : Nat} : ∀ (p : List SX) {x : SX} {q : List SX} {xs : List Value} {bs : List Nat}, OwE w B (p ++ x :: q) xs bs →
    ∃ xp v0 v1 xq bp bx bq, xs = xp ++ v0 :: v1 :: xq ∧ bs = bp ++ (bx ++ bq) ∧ OwE w B p xp bp ∧ OwX w B x v0 v1 bx ∧ OwE w B q xq bq
  | [], x, q, xs, bs, h => by
    rw [List.nil_append, OwE] at h
    obtain ⟨v0, v1, xs', b1, b2, rfl, rfl, h1, h2⟩ := h
    exact ⟨[], v0, v1, xs', [], b1, b2, rfl, rfl, by rw [OwE]; exact ⟨rfl, rfl⟩, h1, h2⟩
  | y :: p, x, q, xs, bs, h => by
    rw [List.cons_append, OwE] at h
    obtain ⟨u0, u1, xs', b1, b2, rfl, rfl, h1, h2⟩ := h
    obtain ⟨xp, v0, v1, xq, bp, bx, bq, rfl, rfl, h3, h4, h5⟩ := OwE_split p h2
    refine ⟨u0 :: u1 :: xp, v0, v1, xq, b1 ++ bp, bx, bq, rfl, by simp, ?_, h4, h5⟩
    rw [OwE]
    exact ⟨u0, u1, xp, b1, bp, rfl, rfl, h1, h3⟩
theorem OwE_join {w : World} {B : Nat} : ∀ (p : List SX) {x : SX} {q : List SX} {xp xq : List Value} {v0 v1 : Value} {bp bx bq : List Nat}, OwE w B p xp bp → OwX w B x v0 v1 bx → OwE w B q xq bq →
    OwE w B (p ++ x :: q) (xp ++ v0 :: v1 :: xq) (bp ++ (bx ++ bq))
  | [], x, q, xp, xq, v0, v1, bp, bx, bq, h, hx, hq => by
    rw [OwE] at h
    obtain ⟨rfl, rfl⟩ := h
    rw [List.nil_append, List.nil_append, List.nil_append, OwE]
    exact ⟨v0, v1, xq, bx, bq, rfl, rfl, hx, hq⟩
  | y :: p, x, q, xp, xq, v0, v1, bp, bx, bq, h, hx, hq => by
    rw [OwE] at h
    obtain ⟨u0, u1, xs', b1, b2, rfl, rfl, h1, h2⟩ := h
    rw [List.cons_append, OwE]
    exact ⟨u0, u1, _, b1, _, rfl, by rw [List.append_assoc], h1, OwE_join p h2 hx hq⟩
theorem OwX_bare {w : World} {B : Nat} {x : SX} {v0 v1 : Value} {bs : List Nat} (h : OwX w B x v0 v1 bs) : OwX w B (.mk ByteArray.empty x.list) (.string ByteArray.empty) v1 bs := by
  cases x with
  | mk a l =>
    rw [OwX] at h ⊢
    exact ⟨rfl, h.2⟩
theorem OwX_dress {w : World} {B : Nat} {a : ByteArray} {l : List SX} {v1 : Value} {bs : List Nat} (h : OwX w B (.mk ByteArray.empty l) (.string ByteArray.empty) v1 bs) : OwX w B (.mk a l) (.string a) v1 bs := by
  rw [OwX] at h ⊢
  exact ⟨rfl, h.2⟩

def MarkS (N : Nat) : Prop := ∀ (l : List SX) (A : Option Addr) (c k B : Nat) (bs : List Nat) (w : World), SX.nodesL l ≤ N → OwX w B (.mk ByteArray.empty l) (.string ByteArray.empty) (.slice A l.length c) bs → bs.Nodup → (∀ b ∈ bs, b < w.heap.size) → 0 < k → k + SX.nodesL l ≤ 4294967296 →
  Calls Try.prog 58 #[.slice A l.length c, .int .i64 k] w fun e w' => e = .returned (.int .i64 (k + SX.nodesL l : Nat)) ∧ OwX w' B (.mk ByteArray.empty (mrkL k l)) (.string ByteArray.empty) (.slice A l.length c) bs ∧ ButL bs w w'

set_option maxRecDepth 100000 in
set_option maxHeartbeats 2000000 in
theorem markS_step (N : Nat) (ih : MarkS N) : MarkS (N + 1) := by
  intro l A c k B bs w hn hO hnd hlt0 hk0 hkn
  have hcount := nodesL_count l
  have HO := Lib.hid hO
  have HND := Lib.hid hnd
  have HLT := Lib.hid hlt0
  have HN := Lib.hid hn
  clear hO hnd hlt0 hn
  go_enter Try.func58, Try.ntmps58
  go_wp2
  go_loopw [1, 5] (fun kv iv wr => ∃ i kk : Nat, i ≤ l.length ∧ iv = .int .i64 i ∧ kk = k + SX.nodesL (l.take i) ∧ kv = .int .i64 kk ∧ OwX wr B (.mk ByteArray.empty (mrkL k (l.take i) ++ l.drop i)) (.string ByteArray.empty) (.slice A l.length c) bs ∧ ButL bs w wr) (fun _ iv _ => l.length - (Go.RowKit.intOf iv).toNat)
  case atStart => exact ⟨0, k, Nat.zero_le _, rfl, by simp [SX.nodesL], rfl, by simpa [mrkL] using HO.out, ButL.refl _ _⟩
  case round =>
    obtain ⟨i, kk, hi, rfl, hkke, rfl, hOi, hb⟩ := hrel
    by_cases hlt : i < l.length
    · rw [List.drop_eq_getElem_cons hlt, OwX] at hOi
      obtain ⟨-, xs, bs', hown, hE, hbs⟩ := hOi
      obtain ⟨xp, v0, v1, xq, bp, bx, bq, rfl, rfl, hp, hx, hq⟩ := OwE_split _ hE
      obtain ⟨Ax, cx, rfl, rfl⟩ := OwX_form hx
      have hlen : (mrkL k (l.take i) ++ l[i] :: l.drop (i + 1)).length = l.length := by rw [List.length_append, mrkL_length, List.length_take, List.length_cons, List.length_drop]; omega
      rw [hlen] at hown
      have hxpl : xp.length = i * 2 := by rw [OwE_length hp, mrkL_length, List.length_take]; omega
      have hl1 : ∃ n', l.length = n' + 1 := ⟨l.length - 1, by omega⟩
      obtain ⟨g, rfl⟩ : ∃ g, A = some ⟨g, 0, none⟩ := by
        rcases hown.2 with ⟨_, h0⟩ | ⟨g, cap, cur, hv, _⟩
        · omega
        · injection hv with hA; exact ⟨g, hA⟩
      have hc0 : wr.cell? ⟨g, i * 2, none⟩ = some (.string l[i].atom) := by
        rw [World.ownsRow.cellAt hown _ (by omega), List.getElem?_append_right (by omega), hxpl, Nat.sub_self]; rfl
      have hst := nodesL_step l i hlt
      have hle := nodesL_part l (i + 1)
      have hne := SX.nodes_eq l[i]
      have hNx : SX.nodesL l[i].list ≤ N := by have := HN.out; omega
      have hk1 : kk + 1 + SX.nodesL l[i].list ≤ 4294967296 := by omega
      have hkk : ((kk : Nat) : Int) + 1 = ((kk + 1 : Nat) : Int) := by omega
      have hk0 : 0 < kk := by omega
      have hi0 : (0 : Int) ≤ i := by omega
      have HOW := Lib.hid hown
      have HP := Lib.hid hp
      have HX := Lib.hid hx
      have HQ := Lib.hid hq
      have HXP := Lib.hid hxpl
      have HST := Lib.hid hst
      have HNE := Lib.hid hne
      have HKK := Lib.hid hkk
      have HBS := Lib.hid hbs
      have hkb : kk ≤ 4294967296 := by omega
      have HKE := Lib.hid hkke
      clear hown hp hx hq hxpl hst hne hkk hE hlen hbs hl1 hle hkke
      go_wp2_with fail
      refine (markText (kk) _ (by omega) (by omega)).mono ?_
      rintro e w1 ⟨rfl, hb1⟩
      have hown1 := owns_below HOW.out hb1
      have c0 : w1.cell? ⟨g, i * 2, none⟩ = some (.string l[i].atom) := (hb1.cell (p := ⟨g, i * 2, none⟩) (HOW.out.lt g rfl).2).trans hc0
      have f0 : w1.frozen? ⟨g, i * 2, none⟩ = false := hown1.frozenAt _
      have c1 : w1.cell? ⟨g, i * 2 + 1, none⟩ = some (.slice Ax l[i].list.length cx) := by
        rw [World.ownsRow.cellAt hown1 _ (by omega), List.getElem?_append_right (by have := HXP.out; omega), HXP.out, Nat.add_sub_cancel_left]; rfl
      have hnd2 := HND.out
      rw [HBS.out] at hnd2
      simp only [Value.ownBlock, Option.toList_some, List.singleton_append, List.nodup_cons] at hnd2
      have hlt2 := HLT.out
      rw [HBS.out] at hlt2
      have hbxlt : ∀ b ∈ bx, b < w1.heap.size := fun b hb' => by have := hlt2 b (by simp [hb']); have := hb.size; have := hb1.size; omega
      have hbxg : ∀ b ∈ bx, b ≠ g := fun b hb' e => hnd2.1 (by rw [← e]; simp [hb'])
      have hbxr : ∀ b ∈ bx, (w1.setCell ⟨g, i * 2, none⟩ (.string (mark (kk)))).heap[b]? = wr.heap[b]? := fun b hb' => by
        rw [Below.heap_setCell _ _ _ _ (by exact hbxg b hb')]
        exact hb1.block b (by have := hlt2 b (by simp [hb']); have := hb.size; omega)
      have hOx : OwX (w1.setCell ⟨g, i * 2, none⟩ (.string (mark (kk)))) B (.mk ByteArray.empty l[i].list) (.string ByteArray.empty) (.slice Ax l[i].list.length cx) bx := OwX_bare (OwX_frame _ hbxr HX.out)
      have hndx : bx.Nodup := by
        have h := hnd2.2
        rw [List.nodup_append, List.nodup_append] at h
        exact h.2.1.1
      have HOX := Lib.hid hOx
      have HNDX := Lib.hid hndx
      have HND2 := Lib.hid hnd2
      have HLT2 := Lib.hid hlt2
      have HBL := Lib.hid hbxlt
      have HOW1 := Lib.hid hown1
      clear hOx hndx hnd2 hlt2 hbxlt hbxg hbxr hown1 hc0
      go_wp2_with fail
      rw [HKK.out]
      refine (ih l[i].list Ax cx (kk + 1) B bx _ hNx HOX.out HNDX.out (by simpa using HBL.out) (by omega) (by omega)).mono ?_
      rintro e w3 ⟨rfl, hO3, hb3⟩
      have hgx : g ∉ bx := fun hm => HND2.out.1 (by simp [hm])
      have hg1 := (HOW1.out.lt g rfl).2
      have hown3 : w3.ownsRow B 26 2 (.slice (some ⟨g, 0, none⟩) l.length c) l.length (xp ++ .string (mark (kk)) :: .slice Ax l[i].list.length cx :: xq) := by
        have h := (HOW1.out.stored (i * 2) (.string (mark (kk)))).1
        rw [List.set_append_right _ _ (by have := HXP.out; omega), HXP.out, Nat.sub_self] at h
        refine own_same (by simpa using h) fun b hb' => ?_
        have : b = g := by simpa [Value.ownBlock] using hb'.symm
        subst this
        exact hb3.block b (by simpa using hg1) hgx
      have hkeep : ∀ b, b < wr.heap.size → b ≠ g → b ∉ bx → w3.heap[b]? = wr.heap[b]? := fun b h1 h2 h3 => by
        rw [hb3.block b (by have := hb1.size; simp; omega) h3, Below.heap_setCell _ _ _ _ (by exact h2)]
        exact hb1.block b h1
      have hnn := HND2.out.2
      rw [List.nodup_append, List.nodup_append] at hnn
      obtain ⟨n1, ⟨n2, n3, n4⟩, n5⟩ := hnn
      have hltb := HLT2.out
      have hwr := hb.size
      have hfin : OwX w3 B (.mk ByteArray.empty (mrkL k (l.take (i + 1)) ++ l.drop (i + 1))) (.string ByteArray.empty) (.slice (some ⟨g, 0, none⟩) l.length c) bs := by
        rw [mrkL_take l k i hlt, ← HKE.out, List.append_assoc, List.singleton_append, OwX]
        refine ⟨rfl, xp ++ .string (mark kk) :: .slice Ax l[i].list.length cx :: xq, _, ?_, OwE_join _ (OwE_frame _ (fun b hb' => hkeep b (by have := hltb b (by simp [hb']); omega) (fun e => HND2.out.1 (by rw [← e]; simp [hb'])) (fun hm => n5 b hb' b (by simp [hm]) rfl)) HP.out) ?_ (OwE_frame _ (fun b hb' => hkeep b (by have := hltb b (by simp [hb']); omega) (fun e => HND2.out.1 (by rw [← e]; simp [hb'])) (fun hm => n4 b hm b hb' rfl)) HQ.out), HBS.out⟩
        · rw [List.length_append, mrkL_length, List.length_take, List.length_cons, List.length_drop, show min i l.length + (l.length - (i + 1) + 1) = l.length by omega]
          exact hown3
        · rw [mrk_eq]
          exact OwX_dress hO3
      have hbf : ButL bs w w3 := by
        refine hb.trans ⟨hb3.os.trans hb1.os, hb3.tape.trans hb1.tape, hb3.output.trans hb1.output, by have := hb1.size; have := hb3.size; simp at this; omega, fun b h1 h2 => hkeep b h1 ?_ ?_⟩
        · rintro rfl; exact h2 (by rw [HBS.out]; simp [Value.ownBlock])
        · intro hm; exact h2 (by rw [HBS.out]; simp [hm])
      have HF := Lib.hid hfin
      clear hfin hown3 hkeep hO3 hb3 hltb hgx c0 c1 f0 n1 n2 n3 n4 n5
      go_wp2
      go_roundw
      case rel => exact ⟨i + 1, kk + 1 + SX.nodesL l[i].list, by omega, by go_num, by rw [HST.out, HNE.out, HKE.out]; omega, rfl, HF.out, hbf⟩
      case measure => simp [Go.RowKit.intOf]; omega
    · have hil : i = l.length := by omega
      subst hil
      rw [List.take_length, List.drop_length, List.append_nil] at hOi
      rw [List.take_length] at hkke
      subst hkke
      have HF := Lib.hid hOi
      clear hOi
      go_wp2
      go_ret
      exact ⟨rfl, HF.out, hb⟩
theorem markSAll : ∀ N, MarkS N
  | 0 => by
    intro l A c k B bs w hn hO hnd hlt0 hk0 hkn
    have hc := nodesL_count l
    have hl : l = [] := List.eq_nil_of_length_eq_zero (by omega)
    subst hl
    have HO := Lib.hid hO
    clear hO
    go_enter Try.func58, Try.ntmps58
    go_wp2
    refine wp_loop_rounds 1 ?_
    rw [rounds_succ]
    go_wp2
    go_ret
    exact ⟨rfl, HO.out, ButL.refl _ _⟩
  | N + 1 => markS_step N (markSAll N)
end Go.Proofs.Ytfcedkcfnifdfaa

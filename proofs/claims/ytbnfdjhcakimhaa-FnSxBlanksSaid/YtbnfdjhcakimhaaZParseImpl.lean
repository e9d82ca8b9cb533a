/- The program's ParseSExpr. -/
import Derived.Test.YtbnfdjhcakimhaaZMark
import Derived.Lib.OthersKept
namespace Go.Proofs.Ytbnfdjhcakimhaa
open Go.RowKit Go.Lib

/-- What a reading of a whole text gives, with the memory of its own. -/
def ParsedOwn (o : Option SX) (w : World) (e : Ending) (w' : World) : Prop :=
  ∃ (x : SX) (A : Option Addr) (c : Nat) (bs : List Nat), x = o.getD (.mk ByteArray.empty []) ∧ e = .returned (.tuple #[.agg #[.string x.atom, .slice A x.list.length c], .bool o.isSome]) ∧
    OwX w' w.heap.size x (.string x.atom) (.slice A x.list.length c) bs ∧ bs.Nodup ∧ (∀ b ∈ bs, w.heap.size ≤ b ∧ b < w'.heap.size) ∧ Below w.heap.size w w'
theorem ParsedOwn.none {w w' : World} (hb : Below w.heap.size w w') : ParsedOwn .none w (.returned (.tuple #[.agg #[.string ⟨#[]⟩, .slice none 0 0], .bool false])) w' :=
  ⟨.mk ByteArray.empty [], Option.none, 0, [], rfl, rfl, OwX_word _ _ _, by simp, by simp, hb⟩

/-- The result that the last method gives. -/
def Ended (B : Nat) (S : St) (w : World) (e : Ending) (w' : World) : Prop :=
  ∃ (x : SX) (A : Option Addr) (c : Nat) (bs : List Nat), x = (endS (some S)).getD (.mk ByteArray.empty []) ∧ e = .returned (.tuple #[.agg #[.string x.atom, .slice A x.list.length c], .bool (endS (some S)).isSome]) ∧
    OwX w' B x (.string x.atom) (.slice A x.list.length c) bs ∧ bs.Nodup ∧ (∀ b ∈ bs, B ≤ b ∧ b < w'.heap.size) ∧ Below w.heap.size w w'
theorem Ended.none {B : Nat} {S : St} {w w' : World} (h : endS (some S) = .none) (hb : Below w.heap.size w w') : Ended B S w (.returned (.tuple #[.agg #[.string ⟨#[]⟩, .slice none 0 0], .bool false])) w' := by
  refine ⟨.mk ByteArray.empty [], Option.none, 0, [], ?_, ?_, OwX_word _ _ _, by simp, by simp, hb⟩
  · rw [h]; rfl
  · rw [h]; rfl

theorem two_new {w : World} {T : TypeId} {a b u v : Value} : ∀ {w' : World}, w' = ((w.alloc (.cells #[a, b] T)).setCell ⟨w.heap.size, 0, none⟩ u).setCell ⟨w.heap.size, 1, none⟩ v → w'.cell? ⟨w.heap.size, 0, none⟩ = some u ∧ w'.cell? ⟨w.heap.size, 1, none⟩ = some v ∧ Below w.heap.size w w' := by
  rintro w' rfl
  have h := ((Whole.new w T #[a, b]).set_ 0 u).set_ 1 v
  refine ⟨by rw [h.cell]; simp, by rw [h.cell]; simp, (((Below.refl _ _).alloc (Nat.le_refl _) _).setCell (by simp) _).setCell (by simp) _⟩

set_option maxRecDepth 100000 in
set_option maxHeartbeats 2000000 in
theorem resultX (G B : Nat) (S : St) (vo : Value) (vs : List Value) (bs : List Nat) (w : World) (hR : Rdr w G B S vo vs bs) (hk : Ok S) :
    Calls Try.prog 41 #[.pointer (some ⟨G, 0, none⟩)] w (Ended B S w) := by
  obtain ⟨ini, top, z⟩ := S
  obtain ⟨ob, cap, rfl⟩ := own_some hR.row
  have hki := hk.depth
  simp only at hki
  have hcells := hR.cells
  have hGlt := hcells.lt
  have gc0 : w.cell? ⟨G, 0, none⟩ = some (.slice (some ⟨ob, 0, none⟩) (ini.length + 1) cap) := by rw [hcells.cell]; rfl
  have hob : ob < w.heap.size := (hR.inB ob (by simp [Value.ownBlock])).2
  have hb0 : Below w.heap.size w (w.alloc (.cells #[.string ByteArray.empty, .slice none 0 0] 26)) := (Below.refl _ _).alloc (Nat.le_refl _) _
  cases ini with
  | cons t r =>
    have he : endS (some ⟨t :: r, top, z⟩) = none := by cases top with | nil => rfl | cons a b => cases b <;> rfl
    have q1 : ((r.length : Int) + 1 + 1 != 1) = true := by rw [bne_iff_ne]; omega
    have hr32 : (r.length : Int) ≤ 14 := by simp only [List.length_cons] at hki; omega
    have HE := Lib.hid he
    clear he hR hk hcells hki
    simp only [List.length_cons] at gc0
    go_enter Try.func41, Try.ntmps41
    go_wp2
    exact bodyPost_ret (v := .tuple #[.agg #[.string ⟨#[]⟩, .slice none 0 0], .bool false]) (by simp [results, Try.results41, go_sem]) rfl (Ended.none HE.out hb0)
  | nil =>
    obtain ⟨vs0, v, b0, bt, rfl, rfl, h1, h2⟩ := hR.levs.last
    obtain ⟨rfl, rfl⟩ := h1
    have hrow := hR.row
    simp only [List.length_nil, List.nil_append, Nat.zero_add] at gc0 hrow
    rw [OwX] at h2
    obtain ⟨-, xs, bs', hown, hE, rfl⟩ := h2
    obtain ⟨A, c, rfl⟩ := own_nil hown
    have gc1 : w.cell? ⟨ob, 0, none⟩ = some (.slice A top.length c) := by rw [World.ownsRow.cellAt hrow 0 (by decide)]; rfl
    cases top with
    | nil =>
      have he : endS (some ⟨[], [], z⟩) = none := rfl
      have HE := Lib.hid he
      clear he hR hcells hown hE hrow hk hki
      simp only [List.length_nil] at gc1
      go_enter Try.func41, Try.ntmps41
      go_wp2
      exact bodyPost_ret (v := .tuple #[.agg #[.string ⟨#[]⟩, .slice none 0 0], .bool false]) (by simp [results, Try.results41, go_sem]) rfl (Ended.none HE.out hb0)
    | cons x l =>
    cases l with
    | cons y r =>
      have he : endS (some ⟨[], x :: y :: r, z⟩) = none := rfl
      have q1 : ((r.length : Int) + 1 + 1 != 1) = true := by rw [bne_iff_ne]; omega
      have hr32 : (r.length : Int) ≤ 900 := by
        have h1 := hk.nodes; have h2 := hk.most; have h3 := SX.nodesL_length (x :: y :: r)
        simp only [nI] at h1 h2
        simp only [List.length_cons] at h3; omega
      have HE := Lib.hid he
      clear he hR hcells hown hE hrow hk hki
      simp only [List.length_cons] at gc1
      go_enter Try.func41, Try.ntmps41
      go_wp2
      exact bodyPost_ret (v := .tuple #[.agg #[.string ⟨#[]⟩, .slice none 0 0], .bool false]) (by simp [results, Try.results41, go_sem]) rfl (Ended.none HE.out hb0)
    | nil =>
      rw [OwE] at hE
      obtain ⟨v0, v1, xs', b1, b2, rfl, rfl, hx, hE2⟩ := hE
      rw [OwE] at hE2
      obtain ⟨rfl, rfl⟩ := hE2
      obtain ⟨A1, c1, rfl, rfl⟩ := OwX_form hx
      obtain ⟨g, cg, hg⟩ := own_some hown
      have hgl : g < w.heap.size := (hown.lt g (by rw [hg]; rfl)).2
      injection hg with hA _ _
      subst hA
      simp only [List.length_cons, List.length_nil, Nat.zero_add] at gc1 hown
      have g0 : w.cell? ⟨g, 0, none⟩ = some (.string x.atom) := by rw [World.ownsRow.cellAt hown 0 (by decide)]; rfl
      have g1 : w.cell? ⟨g, 1, none⟩ = some (.slice A1 x.list.length c1) := by rw [World.ownsRow.cellAt hown 1 (by decide)]; rfl
      have hfin : ∀ w', w' = w.alloc (.cells #[.string x.atom, .slice A1 x.list.length c1] 26) → Ended B ⟨[], [x], z⟩ w (.returned (.tuple #[.agg #[.string x.atom, .slice A1 x.list.length c1], .bool true])) w' := by
        rintro w' rfl
        have hin := hR.inB
        have hnd := hR.nodup
        refine ⟨x, A1, c1, b1, rfl, rfl, OwX_frame _ (fun b hb => Below.heap_alloc _ _ _ (hin b (by simp [hb])).2) hx, ?_, fun b hb => ?_, (Below.refl _ _).alloc (Nat.le_refl _) _⟩
        · rw [List.nodup_append] at hnd
          have h := hnd.2.1
          simp only [List.nil_append, List.append_nil, List.nodup_append] at h
          exact h.2.1
        · have := hin b (by simp [hb]); simp; omega
      clear hR hcells hown hrow hk hki hx hb0
      go_enter Try.func41, Try.ntmps41
      go_wp2
      exact bodyPost_ret (v := .tuple #[.agg #[.string x.atom, .slice A1 x.list.length c1], .bool true]) (by simp [results, Try.results41, go_sem]) rfl (hfin _ rfl)
end Go.Proofs.Ytbnfdjhcakimhaa

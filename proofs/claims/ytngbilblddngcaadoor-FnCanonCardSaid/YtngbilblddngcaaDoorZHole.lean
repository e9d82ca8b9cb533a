/- Places of a tree under way: what still lies there reads as an argument's part; what is done is the call's own. -/
import Derived.Test.YtngbilblddngcaaDoorQ1
namespace Go.Proofs.YtngbilblddngcaaDoor
open Go.RowKit Go.Lib

/-- A place: a block and an offset in it; its three cells. -/
abbrev Pl := Nat × Nat
def atPl (p : Pl) (b o : Nat) : Prop := p.1 = b ∧ p.2 ≤ o ∧ o < p.2 + 3
def inPl (ps : List Pl) (b o : Nat) : Prop := ∃ p ∈ ps, atPl p b o
def farPl (p q : Pl) : Prop := ∀ b o, atPl p b o → ¬ atPl q b o

/-- From w to w': the blocks of T keep type and room, and all cells that lie at none of the places. -/
def Hold (T : List Nat) (ps : List Pl) (w w' : World) : Prop :=
  ∀ b ∈ T, ∀ cs t, w.heap[b]? = some (.cells cs t (0, 0)) → ∃ cs', w'.heap[b]? = some (.cells cs' t (0, 0)) ∧ cs'.size = cs.size ∧ ∀ o, ¬ inPl ps b o → cs'[o]? = cs[o]?
/-- The blocks are the call's own: cells, none closed. -/
def Room (B : Nat) (T : List Nat) (w : World) : Prop := ∀ b ∈ T, B ≤ b ∧ ∃ cs t, w.heap[b]? = some (.cells cs t (0, 0))

theorem Hold.trans {T S : List Nat} {ps qs rs : List Pl} {w w1 w2 : World} (h : Hold T ps w w1) (k : Hold S qs w1 w2) (hT : ∀ b ∈ T, b ∈ S) (hp : ∀ b o, inPl ps b o → inPl rs b o) (hq : ∀ b ∈ T, ∀ o, inPl qs b o → inPl rs b o) : Hold T rs w w2 := by
  intro b hb cs t hc
  obtain ⟨cs1, h1, h2, h3⟩ := h b hb cs t hc
  obtain ⟨cs2, k1, k2, k3⟩ := k b (hT b hb) cs1 t h1
  exact ⟨cs2, k1, k2.trans h2, fun o ho => (k3 o fun e => ho (hq b hb o e)).trans (h3 o fun e => ho (hp b o e))⟩
theorem Hold.same {T : List Nat} {ps : List Pl} {w w' : World} (h : ∀ b ∈ T, w'.heap[b]? = w.heap[b]?) : Hold T ps w w' := fun b hb cs _ hc => ⟨cs, (h b hb).trans hc, rfl, fun _ _ => rfl⟩
theorem cell_rows {w : World} {b o : Nat} {cs : Array Value} {t : TypeId} (h : w.heap[b]? = some (.cells cs t (0, 0))) : w.cell? ⟨b, o, none⟩ = cs[o]? := by simp [World.cell?, h]
theorem Hold.cell {B : Nat} {T : List Nat} {ps : List Pl} {w w' : World} (h : Hold T ps w w') (hr : Room B T w) {b o : Nat} (hb : b ∈ T) (ho : ¬ inPl ps b o) : w'.cell? ⟨b, o, none⟩ = w.cell? ⟨b, o, none⟩ := by
  obtain ⟨_, cs, t, hc⟩ := hr b hb
  obtain ⟨cs', h1, _, h3⟩ := h b hb cs t hc
  rw [cell_rows h1, cell_rows hc, h3 o ho]
theorem Hold.block {B : Nat} {T : List Nat} {ps : List Pl} {w w' : World} (h : Hold T ps w w') (hr : Room B T w) {b : Nat} (hb : b ∈ T) (ho : ∀ p ∈ ps, p.1 ≠ b) : w'.heap[b]? = w.heap[b]? := by
  obtain ⟨_, cs, t, hc⟩ := hr b hb
  obtain ⟨cs', h1, h2, h3⟩ := h b hb cs t hc
  have e : cs' = cs := Array.ext_getElem? fun o => h3 o fun ⟨p, hp, e, _⟩ => ho p hp e
  rw [h1, hc, e]
theorem Room.hold {B : Nat} {T : List Nat} {ps : List Pl} {w w' : World} (h : Room B T w) (hh : Hold T ps w w') : Room B T w' := fun b hb => by
  obtain ⟨h1, cs, t, hc⟩ := h b hb
  obtain ⟨cs', h2, _⟩ := hh b hb cs t hc
  exact ⟨h1, cs', t, h2⟩
theorem Room.lt {B : Nat} {T : List Nat} {w : World} (h : Room B T w) {b : Nat} (hb : b ∈ T) : b < w.heap.size := by
  obtain ⟨_, cs, t, hc⟩ := h b hb
  exact (Array.getElem?_eq_some_iff.1 hc).1
/-- A store at a place. -/
theorem hold_set {T : List Nat} {p : Pl} (w : World) {i : Nat} (hi : i < 3) (v : Value) : Hold T [p] w (w.setCell ⟨p.1, p.2 + i, none⟩ v) := by
  intro b hb cs t hc
  by_cases e : p.1 = b
  · subst e
    refine ⟨cs.setIfInBounds (p.2 + i) v, ?_, by simp, fun o ho => ?_⟩
    · simp [World.setCell, Array.getElem?_modify, hc]
    · rw [Array.getElem?_setIfInBounds]
      split
      · rename_i h
        exact absurd ⟨p, List.mem_singleton.2 rfl, rfl, by omega, by omega⟩ ho
      · rfl
  · exact ⟨cs, (Below.heap_setCell _ _ _ _ (fun h => e h.symm)).trans hc, rfl, fun _ _ => rfl⟩

mutual
theorem OwV_room {w : World} {B : Nat} : ∀ (d : DV) {v : Value} {bs : List Nat}, OwV w B d v bs → Room B bs w
  | .pl u, v, bs, h => by rw [OwV] at h; rw [h.2]; intro b hb; simp at hb
  | .row e k xs, v, bs, h => by
    rw [OwV] at h
    obtain ⟨vs, bs', h1, h2, rfl⟩ := h
    intro b hb
    rcases List.mem_append.1 hb with hb | hb
    · rcases h1.2 with ⟨rfl, _⟩ | ⟨g, cap, cur, rfl, hB, hg, _⟩
      · simp [Value.ownBlock] at hb
      · simp [Value.ownBlock] at hb
        subst hb
        exact ⟨hB, cur, e, hg⟩
    · exact OwVE_room xs h2 b hb
theorem OwVs_room {w : World} {B : Nat} : ∀ (ds : List DV) {vs : List Value} {bs : List Nat}, OwVs w B ds vs bs → Room B bs w
  | [], vs, bs, h => by rw [OwVs] at h; rw [h.2]; intro b hb; simp at hb
  | d :: r, vs, bs, h => by
    rw [OwVs] at h
    obtain ⟨v, vs', b1, b2, rfl, rfl, h1, h2⟩ := h
    intro b hb
    rcases List.mem_append.1 hb with hb | hb
    · exact OwV_room d h1 b hb
    · exact OwVs_room r h2 b hb
theorem OwVE_room {w : World} {B k : Nat} : ∀ (xs : List (List DV)) {vs : List Value} {bs : List Nat}, OwVE w B k xs vs bs → Room B bs w
  | [], vs, bs, h => by rw [OwVE] at h; rw [h.2]; intro b hb; simp at hb
  | x :: r, vs, bs, h => by
    rw [OwVE] at h
    obtain ⟨v1, v2, b1, b2, rfl, rfl, _, h1, h2⟩ := h
    intro b hb
    rcases List.mem_append.1 hb with hb | hb
    · exact OwVs_room x h1 b hb
    · exact OwVE_room r h2 b hb
end

/-- What lies at a place reads as this type; its arguments lie in P. -/
def PendAt (w : World) (P : Nat → Prop) (p : Pl) (x : TypeX) : Prop := ∃ (A : Option Addr) (c : Nat), w.cell? ⟨p.1, p.2, none⟩ = some (.int .i64 x.kind_) ∧ w.cell? ⟨p.1, p.2 + 1, none⟩ = some (.string x.name_) ∧ w.cell? ⟨p.1, p.2 + 2, none⟩ = some (.slice A x.args_.length c) ∧ TypeRow w P A c x.args_
/-- At a place there is this type, in memory of the call's own, in just the blocks bs. -/
def DoneAt (w : World) (B : Nat) (p : Pl) (x : TypeX) (bs : List Nat) : Prop := ∃ vs : List Value, OwVs w B x.cells vs bs ∧ ∀ i v, vs[i]? = some v → w.cell? ⟨p.1, p.2 + i, none⟩ = some v
def DoneAll (w : World) (B : Nat) : List (Pl × TypeX) → List Nat → Prop
  | [], bs => bs = []
  | q :: r, bs => ∃ b1 b2, bs = b1 ++ b2 ∧ DoneAt w B q.1 q.2 b1 ∧ DoneAll w B r b2
theorem DoneAll.split {w : World} {B : Nat} : ∀ {l m : List (Pl × TypeX)} {bs : List Nat}, DoneAll w B (l ++ m) bs → ∃ b1 b2, bs = b1 ++ b2 ∧ DoneAll w B l b1 ∧ DoneAll w B m b2
  | [], m, bs, h => ⟨[], bs, rfl, rfl, h⟩
  | q :: r, m, bs, h => by
    obtain ⟨b1, b2, rfl, h1, h2⟩ := h
    obtain ⟨c1, c2, rfl, h3, h4⟩ := DoneAll.split h2
    exact ⟨b1 ++ c1, c2, (List.append_assoc _ _ _).symm, ⟨b1, c1, rfl, h1, h3⟩, h4⟩
theorem DoneAll.join {w : World} {B : Nat} : ∀ {l m : List (Pl × TypeX)} {b1 b2 : List Nat}, DoneAll w B l b1 → DoneAll w B m b2 → DoneAll w B (l ++ m) (b1 ++ b2)
  | [], m, b1, b2, h, k => by rw [DoneAll] at h; subst h; exact k
  | q :: r, m, b1, b2, h, k => by
    obtain ⟨c1, c2, rfl, h1, h2⟩ := h
    exact ⟨c1, c2 ++ b2, by rw [List.append_assoc], h1, h2.join k⟩

def outP (out : TypeX → TypeX) (q : Pl × TypeX) : Pl × TypeX := (q.1, out q.2)
/-- A tree with open places: whatever makes all of them done makes R true. -/
structure Hole (B : Nat) (P : Nat → Prop) (out : TypeX → TypeX) (T : List Nat) (ps : List (Pl × TypeX)) (w : World) (R : World → Prop) : Prop where
  there : ∀ q ∈ ps, PendAt w P q.1 q.2
  inT : ∀ q ∈ ps, q.1.1 ∈ T
  room : Room B T w
  apart : ps.Pairwise fun a b => farPl a.1 b.1
  wand : ∀ w' bs, Hold T (ps.map (·.1)) w w' → DoneAll w' B (ps.map (outP out)) bs → (∀ b ∈ bs, b ∉ T) → bs.Nodup → R w'

theorem PendAt.frame {w w' : World} {P : Nat → Prop} {p : Pl} {x : TypeX} (h : PendAt w P p x) (hc : ∀ i, i < 3 → w'.cell? ⟨p.1, p.2 + i, none⟩ = w.cell? ⟨p.1, p.2 + i, none⟩) (hP : ∀ b o, P b → w'.cell? ⟨b, o, none⟩ = w.cell? ⟨b, o, none⟩) : PendAt w' P p x := by
  obtain ⟨A, c, h0, h1, h2, h3⟩ := h
  exact ⟨A, c, (hc 0 (by omega)).trans h0, (hc 1 (by omega)).trans h1, (hc 2 (by omega)).trans h2, h3.frame (fun _ h => h) hP⟩
/-- It stays while its blocks stay. -/
theorem Hole.frame {B : Nat} {P : Nat → Prop} {out : TypeX → TypeX} {T : List Nat} {ps : List (Pl × TypeX)} {w w1 : World} {R : World → Prop} (h : Hole B P out T ps w R) (hT : ∀ b ∈ T, w1.heap[b]? = w.heap[b]?) (hP : ∀ b o, P b → w1.cell? ⟨b, o, none⟩ = w.cell? ⟨b, o, none⟩) : Hole B P out T ps w1 R where
  there q hq := (h.there q hq).frame (fun i _ => World.cell?_of_block (hT _ (h.inT q hq))) hP
  inT := h.inT
  room b hb := by rw [hT b hb]; exact h.room b hb
  apart := h.apart
  wand w' bs hh hd hb hn := h.wand w' bs ((Hold.same (ps := []) hT).trans hh (fun _ h => h) (fun _ _ ⟨_, hp, _⟩ => by simp at hp) (fun _ _ _ h => h)) hd hb hn
/-- One place whose cells are to be replaced. -/
theorem hole_one {B : Nat} {P : Nat → Prop} {out : TypeX → TypeX} {T : List Nat} {X : Nat} {x : TypeX} {w : World} (hr : Room B T w) (hX : X ∈ T) (h : PendAt w P (X, 0) x) :
    Hole B P out T [((X, 0), x)] w fun w' => ∃ bs, DoneAt w' B (X, 0) (out x) bs ∧ bs.Nodup ∧ ∀ b ∈ bs, b ∉ T where
  there q hq := by rw [List.mem_singleton] at hq; subst hq; exact h
  inT q hq := by rw [List.mem_singleton] at hq; subst hq; exact hX
  room := hr
  apart := List.pairwise_singleton _ _
  wand w' bs _ hd hb hn := by
    obtain ⟨b1, b2, rfl, h1, h2⟩ := hd
    obtain rfl : b2 = [] := h2
    rw [List.append_nil] at hn hb
    exact ⟨b1, h1, hn, hb⟩
theorem Hole.fin_ {B : Nat} {P : Nat → Prop} {out : TypeX → TypeX} {T : List Nat} {w : World} {R : World → Prop} (h : Hole B P out T [] w R) : R w := h.wand w [] (Hold.same fun _ _ => rfl) rfl (by simp) List.nodup_nil

theorem far_last {ps : List (Pl × TypeX)} {q : Pl × TypeX} (h : (ps ++ [q]).Pairwise fun a b => farPl a.1 b.1) : ∀ b o, atPl q.1 b o → ¬ inPl (ps.map (·.1)) b o := by
  rintro b o hq ⟨p, hp, ha⟩
  obtain ⟨a, ha', rfl⟩ := List.mem_map.1 hp
  exact (List.pairwise_append.1 h).2.2 a ha' q (List.mem_singleton.2 rfl) b o ha hq
theorem inPl_app {ps qs : List Pl} {b o : Nat} : inPl (ps ++ qs) b o ↔ inPl ps b o ∨ inPl qs b o := by
  constructor
  · rintro ⟨p, hp, h⟩
    rcases List.mem_append.1 hp with hp | hp
    · exact .inl ⟨p, hp, h⟩
    · exact .inr ⟨p, hp, h⟩
  · rintro (⟨p, hp, h⟩ | ⟨p, hp, h⟩)
    · exact ⟨p, List.mem_append_left _ hp, h⟩
    · exact ⟨p, List.mem_append_right _ hp, h⟩
theorem pend_rest {B : Nat} {P : Nat → Prop} {out : TypeX → TypeX} {T : List Nat} {ps : List (Pl × TypeX)} {q : Pl × TypeX} {w w1 : World} {R : World → Prop} (h : Hole B P out T (ps ++ [q]) w R) (hH : Hold T [q.1] w w1) (hP : ∀ b o, P b → w1.cell? ⟨b, o, none⟩ = w.cell? ⟨b, o, none⟩) : ∀ a ∈ ps, PendAt w1 P a.1 a.2 := by
  intro a ha
  refine (h.there a (List.mem_append_left _ ha)).frame (fun i hi => hH.cell h.room (h.inT a (List.mem_append_left _ ha)) ?_) hP
  rintro ⟨p, hp, he⟩
  rw [List.mem_singleton] at hp
  subst hp
  exact (List.pairwise_append.1 h.apart).2.2 a ha q (List.mem_singleton.2 rfl) _ _ ⟨rfl, by omega, by omega⟩ he

/-- The last place is done. -/
theorem Hole.value {B : Nat} {P : Nat → Prop} {out : TypeX → TypeX} {T : List Nat} {ps : List (Pl × TypeX)} {q : Pl × TypeX} {w w1 : World} {R : World → Prop} {bsy : List Nat} (h : Hole B P out T (ps ++ [q]) w R)
    (hH : Hold T [q.1] w w1) (hP : ∀ b o, P b → w1.cell? ⟨b, o, none⟩ = w.cell? ⟨b, o, none⟩) (hd : DoneAt w1 B q.1 (out q.2) bsy) (hn : bsy.Nodup) (hT : ∀ b ∈ bsy, b ∉ T) : Hole B P out (bsy ++ T) ps w1 R := by
  have hr1 : Room B T w1 := h.room.hold hH
  have hry : Room B bsy w1 := by obtain ⟨vs, hv, _⟩ := hd; exact OwVs_room _ hv
  have hr : Room B (bsy ++ T) w1 := fun b hb => (List.mem_append.1 hb).elim (hry b) (hr1 b)
  refine ⟨pend_rest h hH hP, fun a ha => List.mem_append_right _ (h.inT a (List.mem_append_left _ ha)), hr, (List.pairwise_append.1 h.apart).1, fun w' bs hh hda hb hnb => ?_⟩
  refine h.wand w' (bs ++ bsy) ?_ ?_ ?_ ?_
  · refine hH.trans hh (fun b hb => List.mem_append_right _ hb) (fun b o hi => ?_) (fun b _ o hi => ?_)
    · rw [List.map_append]; exact inPl_app.2 (.inr hi)
    · rw [List.map_append]; exact inPl_app.2 (.inl hi)
  · rw [List.map_append]
    refine hda.join ⟨bsy, [], by simp, ?_, rfl⟩
    obtain ⟨vs, hv, hc⟩ := hd
    refine ⟨vs, OwVs_frame _ (fun b hb' => hh.block hr (List.mem_append_left _ hb') fun p hp e => ?_) hv, fun i v hi => ?_⟩
    · obtain ⟨a, ha, rfl⟩ := List.mem_map.1 hp
      exact hT b hb' (e ▸ h.inT a (List.mem_append_left _ ha))
    · have hi3 : i < 3 := by
        have h1 := (List.getElem?_eq_some_iff.1 hi).1
        rw [OwVs_length hv, TypeX.cells_length] at h1
        exact h1
      exact (hh.cell hr (List.mem_append_right _ (h.inT q (by simp))) (far_last h.apart _ _ ⟨rfl, Nat.le_add_right _ _, Nat.add_lt_add_left hi3 _⟩)).trans (hc i v hi)
  · intro b hb'
    rcases List.mem_append.1 hb' with hb' | hb'
    · exact fun e => hb b hb' (List.mem_append_right _ e)
    · exact hT b hb'
  · rw [List.nodup_append]
    exact ⟨hnb, hn, fun a ha b hb' e => hb a ha (List.mem_append_left _ (e ▸ hb'))⟩

/-- The places of a row's elements. -/
def kids (g o : Nat) : List TypeX → List (Pl × TypeX)
  | [] => []
  | x :: r => ((g, o), x) :: kids g (o + 3) r
theorem kids_length (g : Nat) : ∀ (o : Nat) (l : List TypeX), (kids g o l).length = l.length
  | o, [] => rfl
  | o, x :: r => by rw [kids, List.length_cons, List.length_cons, kids_length g _ r]
theorem kids_at (g : Nat) : ∀ (o : Nat) (l : List TypeX) (i : Nat), (kids g o l)[i]? = (l[i]?).map fun x => ((g, o + 3 * i), x)
  | o, [], i => by simp [kids]
  | o, x :: r, 0 => by simp [kids]
  | o, x :: r, i + 1 => by
    rw [kids, List.getElem?_cons_succ, kids_at g (o + 3) r i, List.getElem?_cons_succ]
    congr 1
    funext y
    rw [show o + 3 + 3 * i = o + 3 * (i + 1) by omega]
theorem kids_mem {g : Nat} : ∀ {o : Nat} {l : List TypeX} {q : Pl × TypeX}, q ∈ kids g o l → q.1.1 = g ∧ o ≤ q.1.2 ∧ q.2 ∈ l
  | o, x :: r, q, h => by
    rw [kids] at h
    rcases List.mem_cons.1 h with rfl | h
    · exact ⟨rfl, Nat.le_refl _, List.mem_cons_self⟩
    · obtain ⟨h1, h2, h3⟩ := kids_mem h
      exact ⟨h1, by omega, List.mem_cons_of_mem _ h3⟩
theorem kids_apart (g : Nat) : ∀ (o : Nat) (l : List TypeX), (kids g o l).Pairwise fun a b => farPl a.1 b.1
  | o, [] => List.Pairwise.nil
  | o, x :: r => by
    rw [kids]
    refine List.Pairwise.cons (fun a ha b o' h1 h2 => ?_) (kids_apart g _ r)
    obtain ⟨_, h3, _⟩ := kids_mem ha
    obtain ⟨_, h4, h5⟩ := h1
    obtain ⟨_, h6, h7⟩ := h2
    simp only at h4 h5
    omega
theorem kids_types (g : Nat) : ∀ (o : Nat) (l : List TypeX), (kids g o l).map (·.2) = l
  | o, [] => rfl
  | o, x :: r => by rw [kids, List.map_cons, kids_types g _ r]
theorem kids_pend {w : World} {P : Nat → Prop} {g : Nat} : ∀ {l : List TypeX} {us : List Value} {o : Nat}, ElemsT w P l us → (∀ j u, us[j]? = some u → w.cell? ⟨g, o + j, none⟩ = some u) → ∀ q ∈ kids g o l, PendAt w P q.1 q.2
  | x :: r, us, o, he, hc, q, hq => by
    obtain ⟨A, c, rest, rfl, h1, h2⟩ := he
    rw [kids] at hq
    rcases List.mem_cons.1 hq with rfl | hq
    · exact ⟨A, c, hc 0 _ rfl, hc 1 _ rfl, hc 2 _ rfl, h1⟩
    · refine kids_pend h2 (fun j u hj => ?_) q hq
      have := hc (j + 3) u (by simpa using hj)
      rwa [show o + (j + 3) = o + 3 + j by omega] at this
/-- All elements are done: so is the row. -/
theorem kids_done {w : World} {B g : Nat} {out : TypeX → TypeX} {cs : Array Value} {t : TypeId} (hg : w.heap[g]? = some (.cells cs t (0, 0))) : ∀ {l : List TypeX} {o : Nat} {bs : List Nat}, DoneAll w B ((kids g o l).map (outP out)) bs → o + 3 * l.length ≤ cs.size →
    OwVE w B 3 (TypeX.rows (l.map out)) ((cs.toList.drop o).take (3 * l.length)) bs
  | [], o, bs, h, _ => by
    rw [kids] at h
    simp only [List.map_nil, DoneAll] at h
    rw [List.map_nil, TypeX.rows, OwVE]
    exact ⟨by simp, h⟩
  | x :: r, o, bs, h, hs => by
    rw [kids] at h
    obtain ⟨b1, b2, rfl, ⟨vs, hv, hc⟩, h2⟩ := h
    rw [List.length_cons] at hs
    have hk := kids_done hg h2 (by omega)
    rw [List.map_cons, TypeX.rows, OwVE]
    have hl : vs.length = 3 := by rw [OwVs_length hv, TypeX.cells_length]
    refine ⟨vs, _, b1, b2, ?_, rfl, TypeX.cells_length _, hv, hk⟩
    have e1 : vs = (cs.toList.drop o).take 3 := by
      refine List.ext_getElem? fun i => ?_
      rw [List.getElem?_take, List.getElem?_drop]
      by_cases hi : i < 3
      · rw [if_pos hi]
        have h1 : w.cell? ⟨g, o + i, none⟩ = some vs[i] := hc i _ (List.getElem?_eq_getElem (by omega : i < vs.length))
        rw [cell_rows hg] at h1
        rw [List.getElem?_eq_getElem (by omega : i < vs.length), ← h1, Array.getElem?_toList]
      · rw [if_neg hi, List.getElem?_eq_none (by omega)]
    rw [e1, List.length_cons, show 3 * (r.length + 1) = 3 + 3 * r.length by omega, List.take_add, List.drop_drop]

/-- The last place is parted: its arguments' row is new, and its elements are open. -/
theorem Hole.part {B : Nat} {P : Nat → Prop} {out : TypeX → TypeX} {T : List Nat} {ps : List (Pl × TypeX)} {q : Pl × TypeX} {w w1 : World} {R : World → Prop} {V : Value} {us : List Value} {x : TypeX} (h : Hole B P out T (ps ++ [q]) w R)
    (hout : out q.2 = .mk x.kind_ x.name_ (x.args_.map out)) (hH : Hold T [q.1] w w1) (hP : ∀ b o, P b → w1.cell? ⟨b, o, none⟩ = w.cell? ⟨b, o, none⟩)
    (ho : w1.ownsRow B 26 3 V x.args_.length us) (he : ElemsT w1 P x.args_ us) (hV : ∀ b, V.ownBlock = some b → b ∉ T)
    (c0 : w1.cell? ⟨q.1.1, q.1.2, none⟩ = some (.int .i64 x.kind_)) (c1 : w1.cell? ⟨q.1.1, q.1.2 + 1, none⟩ = some (.string x.name_)) (c2 : w1.cell? ⟨q.1.1, q.1.2 + 2, none⟩ = some V) :
    Hole B P out (V.ownBlock.toList ++ T) (ps ++ kids (V.ownBlock.getD 0) 0 x.args_) w1 R := by
  have hr1 : Room B T w1 := h.room.hold hH
  have hpr := pend_rest h hH hP
  have hqT : q.1.1 ∈ T := h.inT q (by simp)
  have hfar := far_last h.apart
  -- the place's cells in a later world
  have later : ∀ {S : List Nat} {rs : List Pl} {w' : World}, Hold S rs w1 w' → (∀ b ∈ T, b ∈ S) → (∀ b o, atPl q.1 b o → ¬ inPl rs b o) → ∀ i, i < 3 → w'.cell? ⟨q.1.1, q.1.2 + i, none⟩ = w1.cell? ⟨q.1.1, q.1.2 + i, none⟩ := by
    intro S rs w' hh hTS hfr i hi
    exact (Hold.cell (T := T) (fun b hb => hh b (hTS b hb)) hr1 hqT (hfr _ _ ⟨rfl, by omega, by omega⟩))
  rcases ho.2 with ⟨rfl, hn⟩ | ⟨g, cap, cur, rfl, hB, hg, hnc, hcm, hcs, htake⟩
  · have ha : x.args_ = [] := List.eq_nil_of_length_eq_zero hn
    rw [ha] at hout ⊢
    simp only [Value.ownBlock, kids, List.append_nil, Option.toList_none, List.nil_append]
    refine ⟨hpr, fun a ha => h.inT a (List.mem_append_left _ ha), hr1, (List.pairwise_append.1 h.apart).1, fun w' bs hh hda hb hnb => ?_⟩
    refine h.wand w' (bs ++ []) ?_ ?_ (by simpa using hb) (by simpa using hnb)
    · refine hH.trans hh (fun b hb => hb) (fun b o hi => ?_) (fun b _ o hi => ?_)
      · rw [List.map_append]; exact inPl_app.2 (.inr hi)
      · rw [List.map_append]; exact inPl_app.2 (.inl hi)
    · rw [List.map_append]
      refine hda.join ⟨[], [], rfl, ?_, rfl⟩
      have hl := later hh (fun _ h => h) (fun b o h1 h2 => hfar b o h1 h2)
      refine ⟨[.int .i64 x.kind_, .string x.name_, .slice none 0 0], ?_, fun i v hi => ?_⟩
      · show OwVs w' B (out q.2).cells _ _
        rw [hout, List.map_nil, TypeX.cells_eq]
        simp only [OwVs, OwV]
        exact ⟨_, _, [], [], rfl, rfl, ⟨rfl, rfl⟩, _, _, [], [], rfl, rfl, ⟨rfl, rfl⟩, _, _, [], [], rfl, rfl, ⟨[], [], World.ownsRow_nil _ _ _ _, by simp only [TypeX.args_, TypeX.rows, OwVE]; exact ⟨trivial, trivial⟩, rfl⟩, rfl, rfl⟩
      · match i, hi with
        | 0, hi => simp at hi; subst hi; exact (hl 0 (by omega)).trans c0
        | 1, hi => simp at hi; subst hi; exact (hl 1 (by omega)).trans c1
        | 2, hi => simp at hi; subst hi; exact (hl 2 (by omega)).trans c2
  · have hgT : g ∉ T := hV g rfl
    have hob : (Value.slice (some ⟨g, 0, none⟩) x.args_.length cap).ownBlock = some g := rfl
    rw [hob]
    simp only [Option.toList_some, Option.getD_some, List.singleton_append]
    have hr : Room B (g :: T) w1 := fun b hb => (List.mem_cons.1 hb).elim (fun e => e ▸ ⟨hB, cur, _, hg⟩) (hr1 b)
    have hcell : ∀ j u, us[j]? = some u → w1.cell? ⟨g, 0 + j, none⟩ = some u := fun j u hj => by
      have hjl : j < x.args_.length * 3 := by rw [← ho.1]; exact (List.getElem?_eq_some_iff.1 hj).1
      rw [Nat.zero_add, World.ownsRow.cellAt ho j hjl]
      exact hj
    have hkp := kids_pend (g := g) (o := 0) he hcell
    have hfk : ∀ b o, atPl q.1 b o → ¬ inPl ((kids g 0 x.args_).map (·.1)) b o := by
      rintro b o ⟨h1, _⟩ ⟨p, hp, h2, _⟩
      obtain ⟨a, ha, rfl⟩ := List.mem_map.1 hp
      have := (kids_mem ha).1
      exact hgT (by rw [← this, h2, ← h1]; exact hqT)
    refine ⟨fun a ha => (List.mem_append.1 ha).elim (hpr a) (hkp a), fun a ha => (List.mem_append.1 ha).elim (fun ha => List.mem_cons_of_mem _ (h.inT a (List.mem_append_left _ ha))) (fun ha => by rw [(kids_mem ha).1]; exact List.mem_cons_self), hr, ?_, fun w' bs hh hda hb hnb => ?_⟩
    · rw [List.pairwise_append]
      refine ⟨(List.pairwise_append.1 h.apart).1, kids_apart _ _ _, fun a ha b hb' b0 o h1 h2 => ?_⟩
      have e := (kids_mem hb').1
      have := h.inT a (List.mem_append_left _ ha)
      rw [h1.1, ← h2.1, e] at this
      exact hgT this
    · rw [List.map_append] at hda hh
      obtain ⟨b1, b2, rfl, hd1, hd2⟩ := hda.split
      obtain ⟨cs', hg', hsz, _⟩ := hh g List.mem_cons_self cur _ hg
      have hle : 0 + 3 * x.args_.length ≤ cs'.size := by rw [hsz, hcs]; omega
      have hE := kids_done (out := out) hg' hd2 hle
      have hfk2 : ∀ b o, atPl q.1 b o → ¬ inPl (ps.map (·.1) ++ (kids g 0 x.args_).map (·.1)) b o := fun b o h1 h2 => (inPl_app.1 h2).elim (hfar b o h1) (hfk b o h1)
      have hl := later hh (fun b hb => List.mem_cons_of_mem _ hb) hfk2
      refine h.wand w' (b1 ++ (g :: b2)) ?_ ?_ ?_ ?_
      · refine hH.trans hh (fun b hb => List.mem_cons_of_mem _ hb) (fun b o hi => ?_) (fun b hb o hi => ?_)
        · rw [List.map_append]; exact inPl_app.2 (.inr hi)
        · rw [List.map_append]
          rcases inPl_app.1 hi with hi | ⟨p, hp, h2, _⟩
          · exact inPl_app.2 (.inl hi)
          · obtain ⟨a, ha, rfl⟩ := List.mem_map.1 hp
            rw [(kids_mem ha).1] at h2
            exact absurd (h2 ▸ hb) hgT
      · rw [List.map_append]
        refine hd1.join ⟨g :: b2, [], by simp, ?_, rfl⟩
        refine ⟨[.int .i64 x.kind_, .string x.name_, .slice (some ⟨g, 0, none⟩) x.args_.length cap], ?_, fun i v hi => ?_⟩
        · show OwVs w' B (out q.2).cells _ _
          rw [hout, TypeX.cells_eq]
          simp only [OwVs, OwV, TypeX.kind_, TypeX.name_, TypeX.args_]
          refine ⟨_, _, [], _, rfl, rfl, ⟨rfl, rfl⟩, _, _, [], _, rfl, rfl, ⟨rfl, rfl⟩, _, _, g :: b2, [], rfl, by simp, ⟨(cs'.toList.drop 0).take (3 * x.args_.length), b2, ?_, hE, rfl⟩, rfl, rfl⟩
          show w'.ownsRow B 26 3 _ (TypeX.rows (x.args_.map out)).length _
          rw [TypeX.rows_length, List.length_map, List.drop_zero, Nat.mul_comm 3]
          exact ⟨by rw [List.length_take, Array.length_toList (xs := cs')]; omega, .inr ⟨g, cap, cs', rfl, hB, hg', hnc, hcm, by rw [hsz, hcs], rfl⟩⟩
        · match i, hi with
          | 0, hi => simp at hi; subst hi; exact (hl 0 (by omega)).trans c0
          | 1, hi => simp at hi; subst hi; exact (hl 1 (by omega)).trans c1
          | 2, hi => simp at hi; subst hi; exact (hl 2 (by omega)).trans c2
      · intro b hb'
        rcases List.mem_append.1 hb' with hb' | hb'
        · exact fun e => hb b (List.mem_append_left _ hb') (List.mem_cons_of_mem _ e)
        · rcases List.mem_cons.1 hb' with rfl | hb'
          · exact hgT
          · exact fun e => hb b (List.mem_append_right _ hb') (List.mem_cons_of_mem _ e)
      · rw [List.perm_middle.nodup_iff]
        exact List.nodup_cons.2 ⟨fun hm => hb g hm List.mem_cons_self, hnb⟩
end Go.Proofs.YtngbilblddngcaaDoor

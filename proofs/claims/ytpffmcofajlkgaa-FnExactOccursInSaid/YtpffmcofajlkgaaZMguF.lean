/- Unification stays small: every type of the run is a small type under the bindings. -/
import Derived.Test.YtpffmcofajlkgaaZMguN
namespace Go.Proofs.Ytpffmcofajlkgaa
open Go.RowKit Go.Lib

theorem bound_none {acc : List BindingX} {v s : ByteArray} {t : TypeX} (h : lookX s (boundX acc v t) = none) : lookX s acc = none ∧ v ≠ s := by
  rw [look_bound] at h
  cases hl : lookX s acc with
  | some y => rw [hl] at h; cases h
  | none =>
    rw [hl] at h
    refine ⟨rfl, fun e => ?_⟩
    rw [if_pos e] at h; cases h
theorem bound_some {acc : List BindingX} {v s : ByteArray} {t : TypeX} (h : (lookX s (boundX acc v t)).isSome = true) : (lookX s acc).isSome = true ∨ s = v := by
  rw [look_bound] at h
  cases hl : lookX s acc with
  | some y => exact .inl rfl
  | none =>
    rw [hl] at h
    by_cases e : v = s
    · exact .inr e.symm
    · rw [if_neg e] at h; cases h
theorem bound_keeps {acc : List BindingX} {v s : ByteArray} {t : TypeX} (h : (lookX s acc).isSome = true) : (lookX s (boundX acc v t)).isSome = true := by
  obtain ⟨y, hy⟩ := Option.isSome_iff_exists.1 h
  rw [look_bound, hy]; rfl
theorem sub_boundX {acc : List BindingX} {v : ByteArray} {t : TypeX} (x : TypeX) : (x.sub (subX acc)).sub (subX [.mk v t]) = x.sub (subX (boundX acc v t)) := by
  refine TypeX.sub_comp (fun s y hs => ?_) (fun s hs => ?_) x
  · have hs' : lookX s acc = some y := hs
    rw [subX, look_bound, hs']; rfl
  · have hs' : lookX s acc = none := hs
    rw [subX, subX, look_bound, hs', look_single]; rfl
mutual
/-- The names that replacement comes to. -/
def TypeX.reach (f : ByteArray → Option TypeX) : TypeX → List ByteArray
  | .mk k n a => if k = 1 ∧ (f n).isSome = true then [n] else (if k = 1 then [n] else []) ++ TypeX.reachL f a
def TypeX.reachL (f : ByteArray → Option TypeX) : List TypeX → List ByteArray
  | [] => []
  | x :: r => x.reach f ++ TypeX.reachL f r
end
mutual
theorem reach_sub {f : ByteArray → Option TypeX} {u : ByteArray} : ∀ x : TypeX, u ∈ x.reach f → (f u = none → u ∈ (x.sub f).names) ∧ (∀ y, f u = some y → ∀ s ∈ y.names, s ∈ (x.sub f).names)
  | .mk k n a, h => by
    rw [TypeX.reach] at h
    by_cases hc : k = 1 ∧ (f n).isSome = true
    · rw [if_pos hc] at h
      have hu : u = n := by simpa using h
      subst hu
      obtain ⟨z, hz⟩ := Option.isSome_iff_exists.1 hc.2
      rw [TypeX.sub, if_pos ⟨by simpa using hc.1, hc.2⟩, hz]
      exact ⟨fun hf => (by cases hf), fun y hy s hs => (by injection hy with hy; subst hy; exact hs)⟩
    · rw [if_neg hc, List.mem_append] at h
      have hc' : ¬ ((k == 1) = true ∧ (f n).isSome = true) := fun e => hc ⟨by simpa using e.1, e.2⟩
      rw [TypeX.sub, if_neg hc', TypeX.names]
      rcases h with h | h
      · by_cases hk : k = 1
        · rw [if_pos hk] at h
          have hu : u = n := by simpa using h
          subst hu
          rw [if_pos hk]
          exact ⟨fun _ => by simp, fun y hy => absurd ⟨hk, by rw [hy]; rfl⟩ hc⟩
        · rw [if_neg hk] at h; cases h
      · obtain ⟨h1, h2⟩ := reachL_sub a h
        exact ⟨fun hf => List.mem_append_right _ (h1 hf), fun y hy s hs => List.mem_append_right _ (h2 y hy s hs)⟩
theorem reachL_sub {f : ByteArray → Option TypeX} {u : ByteArray} : ∀ l : List TypeX, u ∈ TypeX.reachL f l → (f u = none → u ∈ TypeX.namesL (TypeX.subL f l)) ∧ (∀ y, f u = some y → ∀ s ∈ y.names, s ∈ TypeX.namesL (TypeX.subL f l))
  | [], h => by rw [TypeX.reachL] at h; cases h
  | x :: r, h => by
    rw [TypeX.reachL, List.mem_append] at h
    rw [TypeX.subL, TypeX.namesL]
    rcases h with h | h
    · obtain ⟨h1, h2⟩ := reach_sub x h
      exact ⟨fun hf => List.mem_append_left _ (h1 hf), fun y hy s hs => List.mem_append_left _ (h2 y hy s hs)⟩
    · obtain ⟨h1, h2⟩ := reachL_sub r h
      exact ⟨fun hf => List.mem_append_right _ (h1 hf), fun y hy s hs => List.mem_append_right _ (h2 y hy s hs)⟩
end
mutual
theorem reach_mono {f g : ByteArray → Option TypeX} (hfg : ∀ s, (f s).isSome = true → (g s).isSome = true) {u : ByteArray} : ∀ x : TypeX, u ∈ x.reach g → u ∈ x.reach f
  | .mk k n a, h => by
    rw [TypeX.reach] at h ⊢
    by_cases hc : k = 1 ∧ (f n).isSome = true
    · rw [if_pos hc]; rw [if_pos ⟨hc.1, hfg n hc.2⟩] at h; exact h
    · rw [if_neg hc, List.mem_append]
      by_cases hc2 : k = 1 ∧ (g n).isSome = true
      · rw [if_pos hc2] at h; rw [if_pos hc2.1]; exact .inl h
      · rw [if_neg hc2, List.mem_append] at h
        exact h.imp id (reachL_mono hfg a)
theorem reachL_mono {f g : ByteArray → Option TypeX} (hfg : ∀ s, (f s).isSome = true → (g s).isSome = true) {u : ByteArray} : ∀ l : List TypeX, u ∈ TypeX.reachL g l → u ∈ TypeX.reachL f l
  | [], h => by rw [TypeX.reachL] at h; cases h
  | x :: r, h => by
    rw [TypeX.reachL, List.mem_append] at h ⊢
    exact h.imp (reach_mono hfg x) (reachL_mono hfg r)
end
mutual
theorem size_reach {f : ByteArray → Option TypeX} {M : Nat} (h1 : 1 ≤ M) : ∀ x : TypeX, (∀ s ∈ x.reach f, ∀ y, f s = some y → y.size ≤ M) → (x.sub f).size ≤ x.size * M
  | .mk k n a, h => by
    have hz : (TypeX.mk k n a).size = 1 + TypeX.sizeL a := by rw [TypeX.size]
    rw [hz, Nat.add_mul, Nat.one_mul]
    rw [TypeX.reach] at h
    by_cases hc : k = 1 ∧ (f n).isSome = true
    · rw [if_pos hc] at h
      obtain ⟨z, hz⟩ := Option.isSome_iff_exists.1 hc.2
      rw [TypeX.sub, if_pos ⟨by simpa using hc.1, hc.2⟩, hz]
      exact Nat.le_trans (h n (by simp) z hz) (Nat.le_add_right _ _)
    · rw [if_neg hc] at h
      have hc' : ¬ ((k == 1) = true ∧ (f n).isSome = true) := fun e => hc ⟨by simpa using e.1, e.2⟩
      rw [TypeX.sub, if_neg hc', TypeX.size]
      have := sizeL_reach h1 a (fun s hs => h s (List.mem_append_right _ hs))
      omega
theorem sizeL_reach {f : ByteArray → Option TypeX} {M : Nat} (h1 : 1 ≤ M) : ∀ l : List TypeX, (∀ s ∈ TypeX.reachL f l, ∀ y, f s = some y → y.size ≤ M) → TypeX.sizeL (TypeX.subL f l) ≤ TypeX.sizeL l * M
  | [], _ => by rw [TypeX.subL, TypeX.sizeL]; omega
  | x :: r, h => by
    rw [TypeX.subL, TypeX.sizeL, TypeX.sizeL, Nat.add_mul]
    have a1 := size_reach h1 x (fun s hs => h s (by rw [TypeX.reachL]; exact List.mem_append_left _ hs))
    have a2 := sizeL_reach h1 r (fun s hs => h s (by rw [TypeX.reachL]; exact List.mem_append_right _ hs))
    omega
end

/-- In this order a small type's bound names come before it. -/
def SortX (f : ByteArray → Option TypeX) : List ByteArray → List (ByteArray × TypeX) → Prop
  | _, [] => True
  | D, p :: r => (∀ u ∈ p.2.reach f, (f u).isSome = true → u ∈ D) ∧ SortX f (D ++ [p.1]) r
/-- Each bound name stands for a small type under the bindings. -/
structure TopoX (S : Nat) (acc : List BindingX) (L : List (ByteArray × TypeX)) : Prop where
  small : ∀ p ∈ L, p.2.size ≤ S
  look : ∀ p ∈ L, lookX p.1 acc = some (p.2.sub (subX acc))
  all : ∀ u, (lookX u acc).isSome = true → u ∈ L.map Prod.fst
  sort : SortX (subX acc) [] L
  len : L.length = acc.length
theorem TopoX.nil (S : Nat) : TopoX S [] [] where
  small := fun p h => by cases h
  look := fun p h => by cases h
  all := fun u h => by rw [show lookX u [] = none from rfl] at h; cases h
  sort := trivial
  len := rfl

theorem sort_first {f g : ByteArray → Option TypeX} (hfg : ∀ s, (f s).isSome = true → (g s).isSome = true) {v : ByteArray} (hv : f v = none) (hgv : ∀ s, (g s).isSome = true → (f s).isSome = true ∨ s = v) (q : ByteArray × TypeX → Bool) :
    ∀ (L : List (ByteArray × TypeX)) (D D1 : List ByteArray), (∀ p ∈ L, f p.1 = some (p.2.sub f)) → (∀ p ∈ L, q p = true ↔ v ∉ (p.2.sub f).names) → (∀ u ∈ D, ∀ y, f u = some y → v ∉ y.names → u ∈ D1) → SortX f D L → SortX g D1 (L.filter q)
  | [], _, _, _, _, _, _ => trivial
  | p :: r, D, D1, hl, hq, hD, h => by
    rw [SortX] at h
    have hqp := hq p List.mem_cons_self
    have hlp := hl p List.mem_cons_self
    have hr := sort_first hfg hv hgv q r (D ++ [p.1])
    rw [List.filter_cons]
    by_cases hp : q p = true
    · rw [if_pos hp, SortX]
      have hn := hqp.1 hp
      refine ⟨fun u hu hs => ?_, hr (D1 ++ [p.1]) (fun p hp => hl p (List.mem_cons_of_mem _ hp)) (fun p hp => hq p (List.mem_cons_of_mem _ hp)) (fun u hu y hy hvy => ?_) h.2⟩
      · have hu' := reach_mono hfg _ hu
        obtain ⟨h1, h2⟩ := reach_sub _ hu'
        rcases hgv u hs with h3 | rfl
        · obtain ⟨y, hy⟩ := Option.isSome_iff_exists.1 h3
          exact hD u (h.1 u hu' h3) y hy (fun hvy => hn (h2 y hy v hvy))
        · exact absurd (h1 hv) hn
      · rcases List.mem_append.1 hu with hu | hu
        · exact List.mem_append_left _ (hD u hu y hy hvy)
        · exact List.mem_append_right _ hu
    · rw [if_neg hp]
      refine hr D1 (fun p hp => hl p (List.mem_cons_of_mem _ hp)) (fun p hp => hq p (List.mem_cons_of_mem _ hp)) (fun u hu y hy hvy => ?_) h.2
      rcases List.mem_append.1 hu with hu | hu
      · exact hD u hu y hy hvy
      · have e : u = p.1 := by simpa using hu
        subst e
        rw [hlp] at hy; injection hy with hy; subst hy
        exact absurd (hqp.2 hvy) hp
theorem sort_second {f g : ByteArray → Option TypeX} (hfg : ∀ s, (f s).isSome = true → (g s).isSome = true) {v : ByteArray} (hgv : ∀ s, (g s).isSome = true → (f s).isSome = true ∨ s = v) (q : ByteArray × TypeX → Bool) :
    ∀ (L : List (ByteArray × TypeX)) (D D2 : List ByteArray), v ∈ D2 → (∀ u ∈ D, u ∈ D2) → (∀ p ∈ L, q p = true → p.1 ∈ D2) → SortX f D L → SortX g D2 (L.filter fun p => !q p)
  | [], _, _, _, _, _, _ => trivial
  | p :: r, D, D2, hv, hD, hq, h => by
    rw [SortX] at h
    have hr := sort_second hfg hgv q r (D ++ [p.1])
    rw [List.filter_cons]
    by_cases hp : q p = true
    · rw [if_neg (by simp [hp])]
      refine hr D2 hv (fun u hu => ?_) (fun p hp => hq p (List.mem_cons_of_mem _ hp)) h.2
      rcases List.mem_append.1 hu with hu | hu
      · exact hD u hu
      · have e : u = p.1 := by simpa using hu
        subst e; exact hq p List.mem_cons_self hp
    · rw [if_pos (by simp [hp]), SortX]
      refine ⟨fun u hu hs => ?_, hr (D2 ++ [p.1]) (List.mem_append_left _ hv) (fun u hu => ?_) (fun p' hp' hq' => List.mem_append_left _ (hq p' (List.mem_cons_of_mem _ hp') hq')) h.2⟩
      · rcases hgv u hs with h3 | rfl
        · exact hD u (h.1 u (reach_mono hfg _ hu) h3)
        · exact hv
      · rcases List.mem_append.1 hu with hu | hu
        · exact List.mem_append_left _ (hD u hu)
        · exact List.mem_append_right _ hu
theorem sort_app {f : ByteArray → Option TypeX} : ∀ (L M : List (ByteArray × TypeX)) (D : List ByteArray), SortX f D L → SortX f (D ++ L.map Prod.fst) M → SortX f D (L ++ M)
  | [], M, D, _, h => by simpa using h
  | p :: r, M, D, h, h2 => by
    rw [SortX] at h
    rw [List.cons_append, SortX]
    exact ⟨h.1, sort_app r M (D ++ [p.1]) h.2 (by simpa using h2)⟩
theorem filter_two {α : Type} (q : α → Bool) : ∀ L : List α, (L.filter q).length + (L.filter fun p => !q p).length = L.length
  | [] => rfl
  | p :: r => by
    have := filter_two q r
    rw [List.filter_cons, List.filter_cons, List.length_cons]
    by_cases hp : q p = true
    · rw [if_pos hp, if_neg (by simp [hp]), List.length_cons]; omega
    · rw [if_neg hp, if_pos (by simp [hp]), List.length_cons]; omega
theorem TopoX.bound {S : Nat} {acc : List BindingX} {L : List (ByteArray × TypeX)} (h : TopoX S acc L) {v : ByteArray} {r t : TypeX} (hS : r.size ≤ S) (ht : t = r.sub (subX acc)) (hv : lookX v acc = none) (hr : v ∉ t.names) : ∃ L', TopoX S (boundX acc v t) L' := by
  subst ht
  obtain ⟨q, hq⟩ : ∃ q : ByteArray × TypeX → Bool, ∀ p, q p = true ↔ v ∉ (p.2.sub (subX acc)).names :=
    ⟨fun p => @decide (v ∉ (p.2.sub (subX acc)).names) (Classical.propDecidable _), fun p => @decide_eq_true_iff _ (Classical.propDecidable _)⟩
  have hfg : ∀ s, (subX acc s).isSome = true → (subX (boundX acc v (r.sub (subX acc))) s).isSome = true := fun s hs => bound_keeps hs
  have hgv : ∀ s, (subX (boundX acc v (r.sub (subX acc))) s).isSome = true → (subX acc s).isSome = true ∨ s = v := fun s hs => bound_some hs
  refine ⟨L.filter q ++ ((v, r) :: L.filter fun p => !q p), ⟨fun p hp => ?_, fun p hp => ?_, fun u hu => ?_, ?_, ?_⟩⟩
  · rcases List.mem_append.1 hp with hp | hp
    · exact h.small p (List.mem_filter.1 hp).1
    · rcases List.mem_cons.1 hp with rfl | hp
      · exact hS
      · exact h.small p (List.mem_filter.1 hp).1
  · have old : ∀ p ∈ L, lookX p.1 (boundX acc v (r.sub (subX acc))) = some (p.2.sub (subX (boundX acc v (r.sub (subX acc))))) := fun p hp => by
      rw [look_bound, h.look p hp, ← sub_boundX p.2]; rfl
    rcases List.mem_append.1 hp with hp | hp
    · exact old p (List.mem_filter.1 hp).1
    · rcases List.mem_cons.1 hp with rfl | hp
      · show lookX v _ = some (r.sub _)
        rw [look_bound_new hv, ← sub_boundX r, Fresh.same (acc := [.mk v (r.sub (subX acc))]) (fun u hu => by rw [look_single, if_neg (fun e => hr (by rw [e]; exact hu))])]
      · exact old p (List.mem_filter.1 hp).1
  · rw [List.map_append, List.mem_append, List.map_cons, List.mem_cons]
    rcases bound_some hu with hu | hu
    · obtain ⟨p, hp, rfl⟩ := List.mem_map.1 (h.all u hu)
      by_cases hqp : q p = true
      · exact .inl (List.mem_map_of_mem (List.mem_filter.2 ⟨hp, hqp⟩))
      · exact .inr (.inr (List.mem_map_of_mem (List.mem_filter.2 ⟨hp, by simp [hqp]⟩)))
    · exact .inr (.inl hu)
  · refine sort_app _ _ _ (sort_first hfg hv hgv q L [] [] h.look (fun p _ => hq p) (fun u hu => by cases hu) h.sort) ?_
    rw [SortX]
    refine ⟨fun u hu hs => ?_, sort_second hfg hgv q L [] _ (List.mem_append_right _ (by simp)) (fun u hu => by cases hu) (fun p hp hqp => List.mem_append_left _ (List.mem_append_right _ (List.mem_map_of_mem (List.mem_filter.2 ⟨hp, hqp⟩)))) h.sort⟩
    obtain ⟨h1, h2⟩ := reach_sub _ (reach_mono hfg _ hu)
    rcases hgv u hs with h3 | rfl
    · obtain ⟨p, hp, rfl⟩ := List.mem_map.1 (h.all u h3)
      exact List.mem_append_right _ (List.mem_map_of_mem (List.mem_filter.2 ⟨hp, (hq p).2 fun hm => hr (h2 _ (h.look p hp) v hm)⟩))
    · exact absurd (h1 hv) hr
  · rw [List.length_append, List.length_cons, boundX, List.length_append, List.length_map, List.length_singleton, ← h.len, ← filter_two q L]
    omega
theorem pow_le {S a b : Nat} (h1 : 1 ≤ S) (h : a ≤ b) : S ^ a ≤ S ^ b := Nat.pow_le_pow_right h1 h
theorem topo_size {S : Nat} (h1 : 1 ≤ S) {f : ByteArray → Option TypeX} : ∀ (L : List (ByteArray × TypeX)) (D : List ByteArray) (d : Nat), (∀ p ∈ L, p.2.size ≤ S) → (∀ p ∈ L, f p.1 = some (p.2.sub f)) → (∀ u ∈ D, ∀ y, f u = some y → y.size ≤ S ^ d) → SortX f D L → ∀ p ∈ L, (p.2.sub f).size ≤ S ^ (d + L.length)
  | [], _, _, _, _, _, _, p, hp => by cases hp
  | p0 :: r, D, d, hS, hl, hD, h, p, hp => by
    rw [SortX] at h
    have h0 : (p0.2.sub f).size ≤ S ^ (d + 1) := by
      have := size_reach (f := f) (M := S ^ d) (Nat.pow_pos h1) p0.2 (fun s hs y hy => hD s (h.1 s hs (by rw [hy]; rfl)) y hy)
      rw [Nat.pow_succ, Nat.mul_comm]
      exact Nat.le_trans this (Nat.mul_le_mul_right _ (hS p0 List.mem_cons_self))
    rw [List.length_cons]
    rcases List.mem_cons.1 hp with rfl | hp
    · exact Nat.le_trans h0 (pow_le h1 (by omega))
    · have := topo_size h1 r (D ++ [p0.1]) (d + 1) (fun p hp => hS p (List.mem_cons_of_mem _ hp)) (fun p hp => hl p (List.mem_cons_of_mem _ hp)) (fun u hu y hy => by
        rcases List.mem_append.1 hu with hu | hu
        · exact Nat.le_trans (hD u hu y hy) (pow_le h1 (by omega))
        · have e : u = p0.1 := by simpa using hu
          subst e
          rw [hl p0 List.mem_cons_self] at hy; injection hy with hy; subst hy; exact h0) h.2 p hp
      exact Nat.le_trans this (pow_le h1 (by omega))
theorem TopoX.size {S : Nat} (h1 : 1 ≤ S) {acc : List BindingX} {L : List (ByteArray × TypeX)} (h : TopoX S acc L) {s : ByteArray} {y : TypeX} (hs : lookX s acc = some y) : y.size ≤ S ^ acc.length := by
  obtain ⟨p, hp, rfl⟩ := List.mem_map.1 (h.all s (by rw [hs]; rfl))
  rw [h.look p hp] at hs
  injection hs with hs
  have := topo_size (f := subX acc) h1 L [] 0 h.small h.look (fun u hu => by cases hu) h.sort p hp
  rw [← hs, ← h.len]
  simpa using this
/-- A small type that is no bound variable. -/
theorem topo_open {S : Nat} {f : ByteArray → Option TypeX} : ∀ (L : List (ByteArray × TypeX)) (D : List ByteArray), (∀ p ∈ L, p.2.size ≤ S) → (∀ p ∈ L, f p.1 = some (p.2.sub f)) → (∀ u ∈ D, ∀ y, f u = some y → ∃ z : TypeX, z.size ≤ S ∧ z.sub f = y ∧ ¬ (z.kind_ = 1 ∧ (f z.name_).isSome = true)) → SortX f D L →
    ∀ p ∈ L, ∃ z : TypeX, z.size ≤ S ∧ z.sub f = p.2.sub f ∧ ¬ (z.kind_ = 1 ∧ (f z.name_).isSome = true)
  | [], _, _, _, _, _, p, hp => by cases hp
  | p0 :: r, D, hS, hl, hD, h, p, hp => by
    rw [SortX] at h
    have h0 : ∃ z : TypeX, z.size ≤ S ∧ z.sub f = p0.2.sub f ∧ ¬ (z.kind_ = 1 ∧ (f z.name_).isSome = true) := by
      by_cases hc : p0.2.kind_ = 1 ∧ (f p0.2.name_).isSome = true
      · obtain ⟨y, hy⟩ := Option.isSome_iff_exists.1 hc.2
        have hm : p0.2.name_ ∈ p0.2.reach f := by
          cases hx : p0.2 with | mk k n a =>
          rw [hx] at hc
          rw [TypeX.reach, if_pos (show k = 1 ∧ (f n).isSome = true from hc)]; simp [TypeX.name_]
        rw [TypeX.sub_some hc.1 hy]
        exact hD _ (h.1 _ hm hc.2) y hy
      · exact ⟨_, hS p0 List.mem_cons_self, rfl, hc⟩
    rcases List.mem_cons.1 hp with rfl | hp
    · exact h0
    · exact topo_open r (D ++ [p0.1]) (fun p hp => hS p (List.mem_cons_of_mem _ hp)) (fun p hp => hl p (List.mem_cons_of_mem _ hp)) (fun u hu y hy => by
        rcases List.mem_append.1 hu with hu | hu
        · exact hD u hu y hy
        · have e : u = p0.1 := by simpa using hu
          subst e
          rw [hl p0 List.mem_cons_self] at hy; injection hy with hy; subst hy; exact h0) h.2 p hp
theorem TopoX.open_ {S : Nat} {acc : List BindingX} {L : List (ByteArray × TypeX)} (h : TopoX S acc L) (r : TypeX) (hr : r.size ≤ S) : ∃ z : TypeX, z.size ≤ S ∧ z.sub (subX acc) = r.sub (subX acc) ∧ ¬ (z.kind_ = 1 ∧ (lookX z.name_ acc).isSome = true) := by
  by_cases hc : r.kind_ = 1 ∧ (lookX r.name_ acc).isSome = true
  · obtain ⟨y, hy⟩ := Option.isSome_iff_exists.1 hc.2
    obtain ⟨p, hp, he⟩ := List.mem_map.1 (h.all _ hc.2)
    have hl := h.look p hp
    rw [he, hy] at hl
    injection hl with hl
    rw [TypeX.sub_some (f := subX acc) hc.1 hy, hl]
    exact topo_open (f := subX acc) L [] h.small h.look (fun u hu => by cases hu) h.sort p hp
  · exact ⟨r, hr, rfl, hc⟩

/-- A small type, read under the bindings. -/
def RawX (S : Nat) (acc : List BindingX) (x : TypeX) : Prop := ∃ z : TypeX, z.size ≤ S ∧ x.sub (subX acc) = z.sub (subX acc)
theorem RawX.ext {S : Nat} {acc a2 : List BindingX} {x : TypeX} (h : RawX S acc x) (he : Ext acc a2) : RawX S a2 x := by
  obtain ⟨z, h1, h2⟩ := h
  exact ⟨z, h1, by rw [← he x, h2, he z]⟩
theorem RawX.child {S : Nat} {acc : List BindingX} {L : List (ByteArray × TypeX)} (ht : TopoX S acc L) (hi : Idem acc) {x : TypeX} (h : RawX S acc x) (k : Nat) (hk : k < (x.sub (subX acc)).args_.length) : RawX S acc (x.sub (subX acc)).args_[k] := by
  obtain ⟨z, h1, h2⟩ := h
  obtain ⟨z', h3, h4, h5⟩ := ht.open_ z h1
  have h6 : x.sub (subX acc) = .mk z'.kind_ z'.name_ (TypeX.subL (subX acc) z'.args_) := by rw [h2, ← h4, TypeX.sub_else h5]
  have hk' : k < z'.args_.length := by rw [h6] at hk; simpa [TypeX.args_, TypeX.subL_length] using hk
  refine ⟨z'.args_[k], ?_, ?_⟩
  · have := TypeX.sizeL_at z'.args_ k hk'
    have := TypeX.size_eq z'
    omega
  · have e : (x.sub (subX acc)).args_[k] = z'.args_[k].sub (subX acc) := by
      simp only [h6, TypeX.args_, TypeX.subL_map, List.getElem_map]
    rw [e]
    exact (hi.fresh _).same

theorem look_var {acc : List BindingX} {v : ByteArray} (h : v ∈ acc.map BindingX.var_) : (lookX v acc).isSome = true := by
  induction acc with
  | nil => cases h
  | cons b r ih =>
    rw [List.map_cons, List.mem_cons] at h
    rw [lookX]
    by_cases hb : b.var_ = v
    · rw [if_pos (data_eq.2 hb)]; rfl
    · rw [if_neg (fun e => hb (data_eq.1 e))]
      exact ih (h.resolve_left (fun e => hb e.symm))
theorem look_self {acc : List BindingX} (hn : (acc.map BindingX.var_).Nodup) {b : BindingX} (h : b ∈ acc) : lookX b.var_ acc = some b.type_ := by
  induction acc with
  | nil => cases h
  | cons c r ih =>
    rw [List.map_cons, List.nodup_cons] at hn
    rw [lookX]
    rcases List.mem_cons.1 h with rfl | h
    · rw [if_pos (data_eq.2 rfl)]
    · rw [if_neg (fun e => hn.1 (by rw [data_eq.1 e]; exact List.mem_map_of_mem h))]
      exact ih hn.2 h
theorem bound_vars (acc : List BindingX) (v : ByteArray) (t : TypeX) : (boundX acc v t).map BindingX.var_ = acc.map BindingX.var_ ++ [v] := by
  rw [boundX, List.map_append, List.map_map]
  rfl
/-- What holds of the bindings all along: the names are V's, every type is a small type under the bindings. -/
structure InvX (S : Nat) (V : List ByteArray) (acc : List BindingX) : Prop where
  idem : Idem acc
  clo : Closed V acc
  once : (acc.map BindingX.var_).Nodup
  vars : ∀ s ∈ acc.map BindingX.var_, s ∈ V
  topo : ∃ L, TopoX S acc L
theorem InvX.nil (S : Nat) (V : List ByteArray) : InvX S V [] where
  idem := Idem.nil
  clo := fun s _ y h => by rw [show lookX s [] = none from rfl] at h; cases h
  once := by simp
  vars := fun s h => by cases h
  topo := ⟨[], TopoX.nil S⟩
theorem InvX.len {S : Nat} {V : List ByteArray} {acc : List BindingX} (h : InvX S V acc) : acc.length ≤ V.length := by
  have := nodup_le _ V h.once h.vars
  simpa using this
theorem InvX.types {S : Nat} (h1 : 1 ≤ S) {V : List ByteArray} {acc : List BindingX} (h : InvX S V acc) : ∀ b ∈ acc, b.type_.size ≤ S ^ V.length := fun b hb => by
  obtain ⟨L, hL⟩ := h.topo
  exact Nat.le_trans (hL.size h1 (look_self h.once hb)) (pow_le h1 h.len)
theorem InvX.size {S : Nat} (h1 : 1 ≤ S) {V : List ByteArray} {acc : List BindingX} (h : InvX S V acc) {x : TypeX} (hx : RawX S acc x) : (x.sub (subX acc)).size ≤ S ^ (V.length + 1) := by
  obtain ⟨L, hL⟩ := h.topo
  obtain ⟨z, h2, h3⟩ := hx
  rw [h3, Nat.pow_succ, Nat.mul_comm]
  have := size_reach (f := subX acc) (M := S ^ V.length) (Nat.pow_pos h1) z (fun s _ y hy => Nat.le_trans (hL.size h1 hy) (pow_le h1 h.len))
  exact Nat.le_trans this (Nat.mul_le_mul_right _ h2)
theorem InvX.bound {S : Nat} {V : List ByteArray} {acc : List BindingX} (h : InvX S V acc) {v : ByteArray} {y : TypeX} (hl : lookX v acc = none) (hv : v ∈ V) (hy : RawX S acc y) (hf : Fresh acc y) (hn : v ∉ y.names) (hyV : ∀ u ∈ y.names, u ∈ V) : InvX S V (boundX acc v y) := by
  obtain ⟨L, hL⟩ := h.topo
  obtain ⟨z, h2, h3⟩ := hy
  rw [hf.same] at h3
  refine ⟨h.idem.bound hf hn, h.clo.bound hyV, ?_, fun s hs => ?_, hL.bound h2 h3 hl hn⟩
  · rw [bound_vars, List.nodup_append]
    exact ⟨h.once, by simp, fun a ha b hb e => by
      have hb : b = v := by simpa using hb
      rw [e, hb] at ha
      have := look_var ha
      rw [hl] at this; cases this⟩
  · rw [bound_vars, List.mem_append] at hs
    rcases hs with hs | hs
    · exact h.vars s hs
    · rw [show s = v by simpa using hs]; exact hv

/-- All positions; 'none': not told. -/
def mguFL (f : TypeX → TypeX → List BindingX → Option (Option (List BindingX))) : List TypeX → List TypeX → List BindingX → Option (Option (List BindingX))
  | [], _, acc => some (some acc)
  | _ :: _, [], _ => some none
  | x :: r, y :: s, acc => match f x y acc with
    | some (some a2) => mguFL f r s a2
    | o => o
/-- One pair, the substitution applied already. -/
def mguFAt (f : TypeX → TypeX → List BindingX → Option (Option (List BindingX))) (x y : TypeX) (acc : List BindingX) : Option (Option (List BindingX)) :=
  if x.same y = true then some (some acc)
  else if 4000 < x.size + y.size then some none
  else if x.kind_ = 1 then some (if 0 < y.cntV x.name_ then none else some (boundX acc x.name_ y))
  else if y.kind_ = 1 then some (if 0 < x.cntV y.name_ then none else some (boundX acc y.name_ x))
  else if x.kind_ = y.kind_ ∧ x.name_ = y.name_ ∧ x.args_.length = y.args_.length then mguFL f x.args_ y.args_ acc else some none
/-- The sizes of one pair. -/
def FitsX (Z : Nat) (a b : TypeX) (acc : List BindingX) : Prop := acc.length < Z ∧ (∀ c ∈ acc, c.type_.size ≤ Z) ∧ a.size ≤ Z ∧ b.size ≤ Z ∧ (a.sub (subX acc)).size ≤ Z ∧ (b.sub (subX acc)).size ≤ Z
open Classical in
/-- Unification, at most N levels deep, as long as no type is larger than Z. -/
noncomputable def mguF (Z : Nat) : Nat → TypeX → TypeX → List BindingX → Option (Option (List BindingX))
  | 0, _, _, _ => none
  | N + 1, a, b, acc => if FitsX Z a b acc then mguFAt (mguF Z N) (a.sub (subX acc)) (b.sub (subX acc)) acc else none
theorem mguFL_step (f : TypeX → TypeX → List BindingX → Option (Option (List BindingX))) : ∀ (l m : List TypeX) (acc : List BindingX) (k : Nat) (h : k < l.length) (h' : k < m.length) (a2 : List BindingX), mguFL f (l.take k) (m.take k) acc = some (some a2) → mguFL f (l.take (k + 1)) (m.take (k + 1)) acc = f l[k] m[k] a2
  | x :: r, y :: s, acc, 0, _, _, a2, hq => by
    simp only [List.take_zero, mguFL] at hq
    injection hq with hq; injection hq with hq; subst hq
    simp only [Nat.zero_add, List.take_succ_cons, List.take_zero, mguFL, List.getElem_cons_zero]
    cases f x y acc with
    | none => rfl
    | some o => cases o <;> rfl
  | x :: r, y :: s, acc, k + 1, h, h', a2, hq => by
    rw [List.take_succ_cons, List.take_succ_cons, mguFL] at hq ⊢
    cases hf : f x y acc with
    | none => rw [hf] at hq; cases hq
    | some o =>
      cases o with
      | none => rw [hf] at hq; cases hq
      | some a3 =>
        rw [hf] at hq
        simp only [List.getElem_cons_succ]
        exact mguFL_step f r s a3 k (by simpa using h) (by simpa using h') a2 hq
theorem mguFL_none (f : TypeX → TypeX → List BindingX → Option (Option (List BindingX))) : ∀ (l m : List TypeX) (acc : List BindingX) (k : Nat), mguFL f (l.take k) (m.take k) acc = some none → l.length = m.length → mguFL f l m acc = some none
  | [], _, acc, k, h, _ => by rw [List.take_nil, mguFL] at h; cases h
  | x :: r, [], acc, k, _, hl => by simp at hl
  | x :: r, y :: s, acc, 0, h, hl => by rw [List.take_zero, List.take_zero, mguFL] at h; cases h
  | x :: r, y :: s, acc, k + 1, h, hl => by
    rw [List.take_succ_cons, List.take_succ_cons, mguFL] at h
    rw [mguFL]
    cases hf : f x y acc with
    | none => rw [hf] at h; cases h
    | some o =>
      cases o with
      | none => rfl
      | some a3 =>
        rw [hf] at h
        exact mguFL_none f r s a3 k h (by simpa using hl)
theorem mguFL_unknown (f : TypeX → TypeX → List BindingX → Option (Option (List BindingX))) : ∀ (l m : List TypeX) (acc : List BindingX) (k : Nat), mguFL f (l.take k) (m.take k) acc = none → l.length = m.length → mguFL f l m acc = none
  | [], _, acc, k, h, _ => by rw [List.take_nil, mguFL] at h; cases h
  | x :: r, [], acc, k, _, hl => by simp at hl
  | x :: r, y :: s, acc, 0, h, hl => by rw [List.take_zero, List.take_zero, mguFL] at h; cases h
  | x :: r, y :: s, acc, k + 1, h, hl => by
    rw [List.take_succ_cons, List.take_succ_cons, mguFL] at h
    rw [mguFL]
    cases hf : f x y acc with
    | none => rfl
    | some o =>
      cases o with
      | none => rw [hf] at h; cases h
      | some a3 =>
        rw [hf] at h
        exact mguFL_unknown f r s a3 k h (by simpa using hl)
end Go.Proofs.Ytpffmcofajlkgaa

/- The guarded run of unification is the run itself, where the bindings stay small. -/
import Derived.Test.YtpffmcofajlkgaaZMguF
namespace Go.Proofs.Ytpffmcofajlkgaa
open Go.RowKit Go.Lib

theorem mguL_ext {f : TypeX → TypeX → List BindingX → Option (List BindingX)} (hf : ∀ x y acc a2, Idem acc → f x y acc = some a2 → Idem a2 ∧ Ext acc a2 ∧ x.sub (subX a2) = y.sub (subX a2)) {l m : List TypeX} {acc a2 : List BindingX} (hl : l.length = m.length) (hi : Idem acc) (h : mguL f l m acc = some a2) : Ext acc a2 := (mguL_sound hf l m acc a2 hl hi h).2.1
/-- THE GUARDED RUN IS THE RUN. -/
theorem mguF_run {S Z : Nat} {V : List ByteArray} (h1 : 1 ≤ S) (hZ : S ^ (V.length + 1) ≤ Z) (hV : V.length < Z) : ∀ (N : Nat) (a b : TypeX) (acc : List BindingX), InvX S V acc → RawX S acc a → RawX S acc b → (∀ u ∈ a.names, u ∈ V) → (∀ u ∈ b.names, u ∈ V) → a.size ≤ Z → b.size ≤ Z →
    needP (a.sub (subX acc)) (b.sub (subX acc)) ≤ N → mguF Z N a b acc = some (mgu N a b acc) ∧ ∀ a2, mgu N a b acc = some a2 → InvX S V a2
  | 0, a, b, acc, _, _, _, _, _, _, _, hn => by have := needP_pos (a.sub (subX acc)) (b.sub (subX acc)); omega
  | N + 1, a, b, acc, hI, ha, hb, hva, hvb, hza, hzb, hn => by
    have hi := hI.idem
    have fx := hi.fresh a
    have fy := hi.fresh b
    have sx := Nat.le_trans (hI.size h1 ha) hZ
    have sy := Nat.le_trans (hI.size h1 hb) hZ
    have vx := hI.clo.sub hva
    have vy := hI.clo.sub hvb
    have rx : RawX S acc (a.sub (subX acc)) := by obtain ⟨z, h2, h3⟩ := ha; exact ⟨z, h2, by rw [(hi.fresh a).same, h3]⟩
    have ry : RawX S acc (b.sub (subX acc)) := by obtain ⟨z, h2, h3⟩ := hb; exact ⟨z, h2, by rw [(hi.fresh b).same, h3]⟩
    have hfit : FitsX Z a b acc := ⟨Nat.lt_of_le_of_lt hI.len hV, fun c hc => Nat.le_trans (hI.types h1 c hc) (Nat.le_trans (pow_le h1 (Nat.le_succ _)) hZ), hza, hzb, sx, sy⟩
    obtain ⟨L, hL⟩ := hI.topo
    have cx : ∀ k (hk : k < (a.sub (subX acc)).args_.length), RawX S acc (a.sub (subX acc)).args_[k] := fun k hk => ha.child hL hi k hk
    have cy : ∀ k (hk : k < (b.sub (subX acc)).args_.length), RawX S acc (b.sub (subX acc)).args_[k] := fun k hk => hb.child hL hi k hk
    rw [mguF, if_pos hfit, mgu]
    generalize a.sub (subX acc) = x at *
    generalize b.sub (subX acc) = y at *
    rw [mguFAt, mguAt]
    by_cases hs : x.same y = true
    · rw [if_pos hs, if_pos hs]
      exact ⟨rfl, fun a2 h => by injection h with h; subst h; exact hI⟩
    rw [if_neg hs, if_neg hs]
    by_cases hz : 4000 < x.size + y.size
    · rw [if_pos hz, if_pos hz]
      exact ⟨rfl, fun a2 h => by cases h⟩
    rw [if_neg hz, if_neg hz]
    by_cases hxk : x.kind_ = 1
    · rw [if_pos hxk, if_pos hxk]
      refine ⟨rfl, fun a2 h => ?_⟩
      by_cases ho : 0 < y.cntV x.name_
      · rw [if_pos ho] at h; cases h
      rw [if_neg ho] at h; injection h with h; subst h
      exact hI.bound (fx _ (names_self hxk)) (vx _ (names_self hxk)) ry fy (cnt_names ho) vy
    rw [if_neg hxk, if_neg hxk]
    by_cases hyk : y.kind_ = 1
    · rw [if_pos hyk, if_pos hyk]
      refine ⟨rfl, fun a2 h => ?_⟩
      by_cases ho : 0 < x.cntV y.name_
      · rw [if_pos ho] at h; cases h
      rw [if_neg ho] at h; injection h with h; subst h
      exact hI.bound (fy _ (names_self hyk)) (vy _ (names_self hyk)) rx fx (cnt_names ho) vx
    rw [if_neg hyk, if_neg hyk]
    by_cases hc : x.kind_ = y.kind_ ∧ x.name_ = y.name_ ∧ x.args_.length = y.args_.length
    · rw [if_pos hc, if_pos hc]
      have hpre : ∀ k, k ≤ x.args_.length → mguFL (mguF Z N) (x.args_.take k) (y.args_.take k) acc = some (mguL (mgu N) (x.args_.take k) (y.args_.take k) acc) ∧ ∀ a2, mguL (mgu N) (x.args_.take k) (y.args_.take k) acc = some a2 → InvX S V a2 := by
        intro k
        induction k with
        | zero =>
          intro _
          rw [List.take_zero, List.take_zero, mguFL, mguL]
          exact ⟨rfl, fun a2 h => by injection h with h; subst h; exact hI⟩
        | succ k ih =>
          intro hk
          have k1 : k < x.args_.length := by omega
          have k2 : k < y.args_.length := by omega
          obtain ⟨ih1, ih2⟩ := ih (by omega)
          rw [mguL_step _ _ _ _ k k1 k2]
          cases hq : mguL (mgu N) (x.args_.take k) (y.args_.take k) acc with
          | none =>
            rw [hq] at ih1
            refine ⟨?_, fun a2 h => by cases h⟩
            rw [mguFL_none _ _ _ _ k (by rw [List.take_take, List.take_take, Nat.min_eq_left (Nat.le_succ k)]; exact ih1) (by rw [List.length_take, List.length_take, hc.2.2])]
            rfl
          | some ak =>
            rw [hq] at ih1
            have hIk := ih2 ak hq
            obtain ⟨hik, hlt⟩ := need_child (fun x y acc a2 => mgu_sound N x y acc a2) (fun V x y acc a2 => mgu_closed N x y acc a2) hi fx fy (by omega) hc.2.2 k1 k2 hq
            have hext := mguL_ext (fun x y acc a2 => mgu_sound N x y acc a2) (by rw [List.length_take, List.length_take, hc.2.2]) hi hq
            rw [mguFL_step _ _ _ _ k k1 k2 ak ih1, Option.bind_some]
            have zx := TypeX.sizeL_at x.args_ k k1
            have zy := TypeX.sizeL_at y.args_ k k2
            have ex := TypeX.size_eq x
            have ey := TypeX.size_eq y
            exact mguF_run h1 hZ hV N _ _ ak hIk ((cx k k1).ext hext) ((cy k k2).ext hext) (fun u hu => vx u (names_args (names_at _ k k1 u hu))) (fun u hu => vy u (names_args (names_at _ k k2 u hu))) (by omega) (by omega) (by omega)
      have := hpre x.args_.length (Nat.le_refl _)
      rwa [List.take_length, hc.2.2, List.take_length] at this
    · rw [if_neg hc, if_neg hc]
      exact ⟨rfl, fun a2 h => by cases h⟩
end Go.Proofs.Ytpffmcofajlkgaa

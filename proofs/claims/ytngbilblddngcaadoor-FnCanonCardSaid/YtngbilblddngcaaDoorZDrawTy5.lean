/- The draws of chapter 4: DrawIsValidType; and what the law on a type's variables speaks of. -/
import Derived.Test.YtngbilblddngcaaDoorZDrawTy4
import Derived.Test.YtngbilblddngcaaDoorZTyVars
import Derived.Test.YtngbilblddngcaaDoorQ2
namespace Go.Proofs.YtngbilblddngcaaDoor
open Go.RowKit Go.Lib

mutual
theorem TypeX.vars_names : ∀ (x : TypeX) (acc : List ByteArray), x.vars acc = uniF acc x.names
  | .mk k s l, acc => by
    rw [TypeX.vars, TypeX.names, uniF_append, TypeX.varsL_names l]
    split <;> rfl
theorem TypeX.varsL_names : ∀ (l : List TypeX) (acc : List ByteArray), TypeX.varsL acc l = uniF acc (TypeX.namesL l)
  | [], acc => by rw [TypeX.varsL, TypeX.namesL]; rfl
  | x :: r, acc => by rw [TypeX.varsL, TypeX.namesL, uniF_append, TypeX.vars_names x, TypeX.varsL_names r]
end
mutual
theorem TypeX.names_cnt : ∀ (x : TypeX) (u : ByteArray), u ∈ x.names → 1 ≤ x.cntV u
  | .mk k s l, u, h => by
    rw [TypeX.names, List.mem_append] at h
    rw [TypeX.cntV]
    rcases h with h | h
    · split at h
      · rename_i hk
        simp at h
        subst h hk
        simp [TypeX.isV]
      · simp at h
    · have := TypeX.namesL_cnt l u h; omega
theorem TypeX.namesL_cnt : ∀ (l : List TypeX) (u : ByteArray), u ∈ TypeX.namesL l → 1 ≤ TypeX.cntVL u l
  | [], u, h => by rw [TypeX.namesL] at h; simp at h
  | x :: r, u, h => by
    rw [TypeX.namesL, List.mem_append] at h
    rw [TypeX.cntVL]
    rcases h with h | h
    · have := TypeX.names_cnt x u h; omega
    · have := TypeX.namesL_cnt r u h; omega
end
mutual
theorem TypeX.cnt_size : ∀ (x : TypeX) (u : ByteArray), x.cntV u ≤ x.size
  | .mk k s l, u => by
    have := TypeX.cntL_size l u
    rw [TypeX.cntV, TypeX.size]
    have h : TypeX.isV u k s ≤ 1 := by unfold TypeX.isV; split <;> omega
    omega
theorem TypeX.cntL_size : ∀ (l : List TypeX) (u : ByteArray), TypeX.cntVL u l ≤ TypeX.sizeL l
  | [], u => by rw [TypeX.cntVL, TypeX.sizeL]; omega
  | x :: r, u => by
    have := TypeX.cnt_size x u
    have := TypeX.cntL_size r u
    rw [TypeX.cntVL, TypeX.sizeL]; omega
end
mutual
theorem TypeX.tame_names : ∀ (x : TypeX), x.tame → ∀ u ∈ x.names, u.size ≤ 100
  | .mk k s l, h, u, hu => by
    rw [TypeX.tame] at h
    rw [TypeX.names, List.mem_append] at hu
    rcases hu with hu | hu
    · split at hu
      · simp at hu; subst hu; exact h.2.1
      · simp at hu
    · exact TypeX.tameL_names l h.2.2.1 u hu
theorem TypeX.tameL_names : ∀ (l : List TypeX), TypeX.tameL l → ∀ u ∈ TypeX.namesL l, u.size ≤ 100
  | [], h, u, hu => by rw [TypeX.namesL] at hu; simp at hu
  | x :: r, h, u, hu => by
    rw [TypeX.tameL] at h
    rw [TypeX.namesL, List.mem_append] at hu
    rcases hu with hu | hu
    · exact TypeX.tame_names x h.1 u hu
    · exact TypeX.tameL_names r h.2 u hu
end
mutual
theorem TypeX.names_len : ∀ (x : TypeX), x.names.length ≤ x.size
  | .mk k s l => by
    have := TypeX.namesL_len l
    rw [TypeX.names, TypeX.size, List.length_append]
    split <;> simp <;> omega
theorem TypeX.namesL_len : ∀ (l : List TypeX), (TypeX.namesL l).length ≤ TypeX.sizeL l
  | [] => by rw [TypeX.namesL, TypeX.sizeL]; simp
  | x :: r => by
    have := TypeX.names_len x
    have := TypeX.namesL_len r
    rw [TypeX.namesL, TypeX.sizeL, List.length_append]; omega
end

/-- A type drawn for a law. -/
def DrawnTy (w : World) (e : Ending) (w' : World) : Prop := ∃ (x : TypeX) (A : Option Addr) (c : Nat), e = .returned (.agg #[.int .i64 x.kind_, .string x.name_, .slice A x.args_.length c]) ∧ TypeRow w' (Und w'.heap.size) A c x.args_ ∧ x.size ≤ 100 ∧ x.tame ∧ Below w.heap.size w w'
end Go.Proofs.YtngbilblddngcaaDoor

/- The draws of chapter 4: DrawIsValidType; and what the law on a type's variables speaks of. -/
import Derived.Test.YtoongnmkhjkbkaaZDrawTy4
import Derived.Test.YtoongnmkhjkbkaaZTyVars
import Derived.Test.YtoongnmkhjkbkaaQ2
namespace Go.Proofs.Ytoongnmkhjkbkaa
open Go.RowKit Go.Lib

mutual
theorem TypeX.vars_names : ∀ (x : TypeX) (acc : List ByteArray), x.vars acc = uniF acc x.names
  | .mk k s l, acc => by
    rw [TypeX.vars, TypeX.names, uniF_append, TypeX.varsL_names l]
    split <;> rfl
theorem TypeX.varsL_names : ∀ (l : List TypeX) (acc : List ByteArray), TypeX.varsL acc l = uniF acc (TypeX.namesL l)
  | [], acc => by rw [TypeX.varsL, TypeX.namesL]; rfl
  | x :: r, acc => by rw [TypeX.varsL, TypeX.namesL, uniF_append, TypeX.vars_names x, TypeX.varsL_names r]
end
mutual
theorem TypeX.names_cnt : ∀ (x : TypeX) (u : ByteArray), u ∈ x.names → 1 ≤ x.cntV u
  | .mk k s l, u, h => by
    rw [TypeX.names, List.mem_append] at h
    rw [TypeX.cntV]
    rcases h with h | h
    · split at h
      · rename_i hk
        simp at h
        subst h hk
        simp [TypeX.isV]
      · simp at h
    · have := TypeX.namesL_cnt l u h; omega
theorem TypeX.namesL_cnt : ∀ (l : List TypeX) (u : ByteArray), u ∈ TypeX.namesL l → 1 ≤ TypeX.cntVL u l
  | [], u, h => by rw [TypeX.namesL] at h; simp at h
  | x :: r, u, h => by
    rw [TypeX.namesL, List.mem_append] at h
    rw [TypeX.cntVL]
    rcases h with h | h
    · have := TypeX.names_cnt x u h; omega
    · have := TypeX.namesL_cnt r u h; omega
end
mutual
theorem TypeX.cnt_size : ∀ (x : TypeX) (u : ByteArray), x.cntV u ≤ x.size
  | .mk k s l, u => by
    have := TypeX.cntL_size l u
    rw [TypeX.cntV, TypeX.size]
    have h : TypeX.isV u k s ≤ 1 := by unfold TypeX.isV; split <;> omega
    omega
theorem TypeX.cntL_size : ∀ (l : List TypeX) (u : ByteArray), TypeX.cntVL u l ≤ TypeX.sizeL l
  | [], u => by rw [TypeX.cntVL, TypeX.sizeL]; omega
  | x :: r, u => by
    have := TypeX.cnt_size x u
    have := TypeX.cntL_size r u
    rw [TypeX.cntVL, TypeX.sizeL]; omega
end
mutual
theorem TypeX.tame_names : ∀ (x : TypeX), x.tame → ∀ u ∈ x.names, u.size ≤ 100
  | .mk k s l, h, u, hu => by
    rw [TypeX.tame] at h
    rw [TypeX.names, List.mem_append] at hu
    rcases hu with hu | hu
    · split at hu
      · simp at hu; subst hu; exact h.2.1
      · simp at hu
    · exact TypeX.tameL_names l h.2.2.1 u hu
theorem TypeX.tameL_names : ∀ (l : List TypeX), TypeX.tameL l → ∀ u ∈ TypeX.namesL l, u.size ≤ 100
  | [], h, u, hu => by rw [TypeX.namesL] at hu; simp at hu
  | x :: r, h, u, hu => by
    rw [TypeX.tameL] at h
    rw [TypeX.namesL, List.mem_append] at hu
    rcases hu with hu | hu
    · exact TypeX.tame_names x h.1 u hu
    · exact TypeX.tameL_names r h.2 u hu
end
mutual
theorem TypeX.names_len : ∀ (x : TypeX), x.names.length ≤ x.size
  | .mk k s l => by
    have := TypeX.namesL_len l
    rw [TypeX.names, TypeX.size, List.length_append]
    split <;> simp <;> omega
theorem TypeX.namesL_len : ∀ (l : List TypeX), (TypeX.namesL l).length ≤ TypeX.sizeL l
  | [] => by rw [TypeX.namesL, TypeX.sizeL]; simp
  | x :: r => by
    have := TypeX.names_len x
    have := TypeX.namesL_len r
    rw [TypeX.namesL, TypeX.sizeL, List.length_append]; omega
end

/-- A type drawn for a law. -/
def DrawnTy (w : World) (e : Ending) (w' : World) : Prop := ∃ (x : TypeX) (A : Option Addr) (c : Nat), e = .returned (.agg #[.int .i64 x.kind_, .string x.name_, .slice A x.args_.length c]) ∧ TypeRow w' (Und w'.heap.size) A c x.args_ ∧ x.size ≤ 100 ∧ x.tame ∧ Below w.heap.size w w'
set_option maxRecDepth 100000 in
set_option maxHeartbeats 1000000 in
theorem drawValidTy (A : Option Addr) (n c : Nat) (w : World) (hA : BytesAt w w.heap.size A n) (hn : n ≤ 140737488355328) :
    Calls Try.prog 51 #[.slice A n c] w (DrawnTy w) := by
  have hbX : Below w.heap.size w (w.alloc (.cells zeroT 27)) := (Below.refl _ _).alloc (Nat.le_refl _) _
  have HXX := Lib.hid (Whole.new w 27 zeroT)
  have HAA := Lib.hid ((hA.below hbX).mono_ hbX.size)
  have HBB := Lib.hid hbX
  have HW0 : Hid ((w.alloc (.cells zeroT 27)).heap.size = w.heap.size + 1) := Lib.hid (by simp)
  clear hA hbX
  go_enter Try.func51, Try.ntmps51
  go_wp2_with fail
  refine (drawNew A n c _ HAA.out hn).mono ?_
  rintro e w1 ⟨g, rfl, hc, hb⟩
  have hX1 := whole_keep HXX.out hb
  have hb1 := HBB.out.trans (hb.mono HBB.out.size)
  have hown := hc.own
  have hw0 := HW0.out
  have hgl := hc.lt
  have hxl := hX1.lt
  have HC := Lib.hid hc
  have HX1 := Lib.hid hX1
  have HB1 := Lib.hid hb1
  clear hc hb hX1 hb1
  go_wp2_with fail
  refine (bentC (fun b => b = g ∨ b = w.heap.size) _ g w1 (fun b h => by rcases h with h | h <;> omega) (.inl rfl) HC.out).mono ?_
  rintro e w2 ⟨x, ⟨V, rfl, ht⟩, hxs, hxt, -, hb2⟩
  obtain ⟨A2, c2, rfl⟩ := ht.shape
  obtain ⟨A2', c2', e2, hr2⟩ := ht.row (fun b h => by rcases h with h | h <;> omega)
  injection e2 with e2 _ e3
  subst e2 e3
  have hX2 := whole_but HX1.out hb2 (by omega)
  have hbb : Below w.heap.size w w2 := HB1.out.trans (hb2.to_below (by omega) HB1.out.size)
  have hend := tyEnd (w := w) (k := x.kind_) (s := x.name_) (A := A2) (n := x.args_.length) (cc := c2) hX2 hbb
  obtain ⟨r0, r1, r2⟩ := cells3 hX2
  have rf0 := hX2.frozen 0
  have rf1 := hX2.frozen 1
  have rf2 := hX2.frozen 2
  have hlt := hX2.lt
  have HE := Lib.hid hend
  have HR2 := Lib.hid hr2
  clear hend hr2 ht hX2 hb2 hbb
  go_wp2
  obtain ⟨e0, e1, e2, hbut, hb4⟩ := HE.out _ rfl
  exact bodyPost_ret (v := .agg #[.int .i64 x.kind_, .string x.name_, .slice A2 x.args_.length c2]) (by simp [results, Try.results51, go_sem, e0, e1, e2]) rfl
    ⟨x, A2, c2, rfl, (HR2.out.nogBut (.inr rfl) hbut).frame (fun _ h => h.1) fun _ _ _ => rfl, hxs, hxt, hb4⟩
end Go.Proofs.Ytoongnmkhjkbkaa

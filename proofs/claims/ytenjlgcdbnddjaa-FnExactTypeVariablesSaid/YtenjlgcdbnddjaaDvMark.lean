/- Marks over plain data: what is marked, how many marks; one cell of an owned row changed, one row within it changed. -/
import Derived.Test.YtenjlgcdbnddjaaDvMake
import Derived.Test.YtenjlgcdbnddjaaDvW
import Derived.Test.YtenjlgcdbnddjaaMarkText
import Derived.Laws.OwnMore
namespace Go.Proofs.Ytenjlgcdbnddjaa
open Go.RowKit Go.Lib

mutual
/-- How many marks. -/
def DV.cnt : DV → Nat
  | .pl _ => 1
  | .row _ _ xs => DV.cntE xs
def DV.cntL : List DV → Nat
  | [] => 0
  | d :: r => d.cnt + DV.cntL r
def DV.cntE : List (List DV) → Nat
  | [] => 0
  | x :: r => DV.cntL x + DV.cntE r
end
/-- A plain value's mark. -/
def vmkU (k : Nat) : Value → Value
  | .string _ => .string (mark k)
  | .int q _ => .int q k
  | .bool _ => .bool ((k : Int) % 3 == 0)
  | u => u
mutual
/-- Marked from k on. -/
def DV.vmk (k : Nat) : DV → DV
  | .pl u => .pl (vmkU k u)
  | .row e s xs => .row e s (vmkE k xs)
def vmkL (k : Nat) : List DV → List DV
  | [] => []
  | d :: r => d.vmk k :: vmkL (k + d.cnt) r
def vmkE (k : Nat) : List (List DV) → List (List DV)
  | [] => []
  | x :: r => vmkL k x :: vmkE (k + DV.cntL x) r
end
theorem vmkL_length : ∀ (ds : List DV) (k : Nat), (vmkL k ds).length = ds.length
  | [], _ => by rw [vmkL]
  | d :: r, k => by rw [vmkL, List.length_cons, List.length_cons, vmkL_length r]
theorem vmkE_length : ∀ (l : List (List DV)) (k : Nat), (vmkE k l).length = l.length
  | [], _ => by rw [vmkE]
  | x :: r, k => by rw [vmkE, List.length_cons, List.length_cons, vmkE_length r]
theorem vmkE_take : ∀ (l : List (List DV)) (k i : Nat) (h : i < l.length), vmkE k (l.take (i + 1)) = vmkE k (l.take i) ++ [vmkL (k + DV.cntE (l.take i)) l[i]]
  | x :: r, k, 0, _ => by simp [vmkE, DV.cntE]
  | x :: r, k, i + 1, h => by
    rw [List.take_succ_cons, List.take_succ_cons, vmkE, vmkE, vmkE_take r _ i (by simpa using h), DV.cntE]
    simp [Nat.add_assoc]
theorem vmkE_at : ∀ (l : List (List DV)) (k i : Nat) (h : i < l.length), (vmkE k l)[i]? = some (vmkL (k + DV.cntE (l.take i)) l[i])
  | x :: r, k, 0, _ => by simp [vmkE, DV.cntE]
  | x :: r, k, i + 1, h => by
    rw [vmkE, List.getElem?_cons_succ, vmkE_at r _ i (by simpa using h), List.take_succ_cons, DV.cntE]
    simp [Nat.add_assoc]
theorem cntE_step : ∀ (l : List (List DV)) (j : Nat) (h : j < l.length), DV.cntE (l.take (j + 1)) = DV.cntE (l.take j) + DV.cntL l[j]
  | x :: r, 0, _ => by simp [DV.cntE]
  | x :: r, j + 1, h => by
    have := cntE_step r j (by simpa using h)
    rw [List.take_succ_cons, List.take_succ_cons, DV.cntE, DV.cntE, this]
    simp; omega
theorem cntE_part : ∀ (l : List (List DV)) (j : Nat), DV.cntE (l.take j) ≤ DV.cntE l
  | [], j => by simp
  | x :: r, 0 => by simp [DV.cntE]
  | x :: r, j + 1 => by
    have := cntE_part r j
    rw [List.take_succ_cons, DV.cntE, DV.cntE]; omega

/-- All blocks but these are as they were. -/
structure ButV (bs : List Nat) (w w' : World) : Prop where
  os : w'.os = w.os
  tape : w'.tape = w.tape
  output : w'.output = w.output
  size : w.heap.size ≤ w'.heap.size
  block : ∀ b, b < w.heap.size → b ∉ bs → w'.heap[b]? = w.heap[b]?
theorem ButV.refl (bs : List Nat) (w : World) : ButV bs w w := ⟨rfl, rfl, rfl, Nat.le_refl _, fun _ _ _ => rfl⟩
theorem ButV.trans {bs : List Nat} {a b c : World} (h : ButV bs a b) (k : ButV bs b c) : ButV bs a c :=
  ⟨k.os.trans h.os, k.tape.trans h.tape, k.output.trans h.output, Nat.le_trans h.size k.size, fun i hi hn => (k.block i (Nat.lt_of_lt_of_le hi h.size) hn).trans (h.block i hi hn)⟩
theorem ButV.of_below {bs : List Nat} {w w' : World} (h : Below w.heap.size w w') : ButV bs w w' := ⟨h.os, h.tape, h.output, h.size, fun b hb _ => h.block b hb⟩
theorem ButV.more {bs cs : List Nat} {w w' : World} (h : ButV bs w w') (hs : ∀ b ∈ bs, b ∈ cs) : ButV cs w w' := ⟨h.os, h.tape, h.output, h.size, fun b hb hn => h.block b hb fun hm => hn (hs b hm)⟩
theorem ButV.set_ {bs : List Nat} {a w : World} (h : ButV bs a w) {g : Nat} (hg : g ∈ bs) (i : Nat) (v : Value) : ButV bs a (w.setCell ⟨g, i, none⟩ v) :=
  h.trans ⟨rfl, rfl, rfl, by simp [World.setCell], fun b _ hn => Below.heap_setCell _ _ _ _ (by exact (fun e => hn (by rw [e]; exact hg)))⟩
theorem ButV.below {bs : List Nat} {B : Nat} {w w' : World} (h : ButV bs w w') (hB : B ≤ w.heap.size) (hbs : ∀ b ∈ bs, B ≤ b) : Below B w w' :=
  ⟨h.os, h.tape, h.output, h.size, fun k hk => h.block k (by omega) (fun hm => by have := hbs k hm; omega)⟩

theorem OwVE_split {w : World} {B K : Nat} : ∀ (p : List (List DV)) {x : List DV} {q : List (List DV)} {vs : List Value} {bs : List Nat}, OwVE w B K (p ++ x :: q) vs bs →
    ∃ vp vx vq bp bx bq, vs = vp ++ (vx ++ vq) ∧ bs = bp ++ (bx ++ bq) ∧ OwVE w B K p vp bp ∧ x.length = K ∧ OwVs w B x vx bx ∧ OwVE w B K q vq bq
  | [], x, q, vs, bs, h => by
    rw [List.nil_append, OwVE] at h
    obtain ⟨v1, v2, b1, b2, rfl, rfl, hk, h1, h2⟩ := h
    exact ⟨[], v1, v2, [], b1, b2, rfl, rfl, by rw [OwVE]; exact ⟨rfl, rfl⟩, hk, h1, h2⟩
  | y :: p, x, q, vs, bs, h => by
    rw [List.cons_append, OwVE] at h
    obtain ⟨v1, v2, b1, b2, rfl, rfl, hk, h1, h2⟩ := h
    obtain ⟨vp, vx, vq, bp, bx, bq, rfl, rfl, h3, h4, h5, h6⟩ := OwVE_split p h2
    refine ⟨v1 ++ vp, vx, vq, b1 ++ bp, bx, bq, by rw [List.append_assoc], by rw [List.append_assoc], ?_, h4, h5, h6⟩
    rw [OwVE]
    exact ⟨v1, vp, b1, bp, rfl, rfl, hk, h1, h3⟩
theorem OwVE_join {w : World} {B K : Nat} : ∀ (p : List (List DV)) {x : List DV} {q : List (List DV)} {vp vx vq : List Value} {bp bx bq : List Nat}, OwVE w B K p vp bp → x.length = K → OwVs w B x vx bx → OwVE w B K q vq bq →
    OwVE w B K (p ++ x :: q) (vp ++ (vx ++ vq)) (bp ++ (bx ++ bq))
  | [], x, q, vp, vx, vq, bp, bx, bq, h, hk, hx, hq => by
    rw [OwVE] at h
    obtain ⟨rfl, rfl⟩ := h
    rw [List.nil_append, List.nil_append, List.nil_append, OwVE]
    exact ⟨vx, vq, bx, bq, rfl, rfl, hk, hx, hq⟩
  | y :: p, x, q, vp, vx, vq, bp, bx, bq, h, hk, hx, hq => by
    rw [OwVE] at h
    obtain ⟨v1, v2, b1, b2, rfl, rfl, hk1, h1, h2⟩ := h
    rw [List.cons_append, OwVE]
    exact ⟨v1, _, b1, _, by rw [List.append_assoc], by rw [List.append_assoc], hk1, h1, OwVE_join p h2 hk hx hq⟩
theorem OwVs_split {w : World} {B : Nat} : ∀ (p : List DV) {d : DV} {q : List DV} {vs : List Value} {bs : List Nat}, OwVs w B (p ++ d :: q) vs bs →
    ∃ vp v vq bp bd bq, vs = vp ++ v :: vq ∧ bs = bp ++ (bd ++ bq) ∧ OwVs w B p vp bp ∧ OwV w B d v bd ∧ OwVs w B q vq bq
  | [], d, q, vs, bs, h => by
    rw [List.nil_append, OwVs] at h
    obtain ⟨v, v2, b1, b2, rfl, rfl, h1, h2⟩ := h
    exact ⟨[], v, v2, [], b1, b2, rfl, rfl, by rw [OwVs]; exact ⟨rfl, rfl⟩, h1, h2⟩
  | y :: p, d, q, vs, bs, h => by
    rw [List.cons_append, OwVs] at h
    obtain ⟨v1, v2, b1, b2, rfl, rfl, h1, h2⟩ := h
    obtain ⟨vp, v, vq, bp, bd, bq, rfl, rfl, h3, h4, h5⟩ := OwVs_split p h2
    refine ⟨v1 :: vp, v, vq, b1 ++ bp, bd, bq, rfl, by rw [List.append_assoc], ?_, h4, h5⟩
    rw [OwVs]
    exact ⟨v1, vp, b1, bp, rfl, rfl, h1, h3⟩
theorem OwVs_join {w : World} {B : Nat} : ∀ (p : List DV) {d : DV} {q : List DV} {vp vq : List Value} {v : Value} {bp bd bq : List Nat}, OwVs w B p vp bp → OwV w B d v bd → OwVs w B q vq bq →
    OwVs w B (p ++ d :: q) (vp ++ v :: vq) (bp ++ (bd ++ bq))
  | [], d, q, vp, vq, v, bp, bd, bq, h, hx, hq => by
    rw [OwVs] at h
    obtain ⟨rfl, rfl⟩ := h
    rw [List.nil_append, List.nil_append, List.nil_append, OwVs]
    exact ⟨v, vq, bd, bq, rfl, rfl, hx, hq⟩
  | y :: p, d, q, vp, vq, v, bp, bd, bq, h, hx, hq => by
    rw [OwVs] at h
    obtain ⟨v1, v2, b1, b2, rfl, rfl, h1, h2⟩ := h
    rw [List.cons_append, OwVs]
    exact ⟨v1, _, b1, _, rfl, by rw [List.append_assoc], h1, OwVs_join p h2 hx hq⟩

/-- A row that has elements lies somewhere. -/
theorem OwV_some {w : World} {B K n c : Nat} {e : TypeId} {xs : List (List DV)} {A : Option Addr} {bs : List Nat} (h : OwV w B (.row e K xs) (.slice A n c) bs) (hx : 0 < xs.length) : ∃ g, A = some ⟨g, 0, none⟩ ∧ g ∈ bs := by
  rw [OwV] at h
  obtain ⟨vs, bs', h1, _, rfl⟩ := h
  rcases h1.2 with ⟨_, h0⟩ | ⟨g, cap, cur, hv, _⟩
  · omega
  · injection hv with hA
    subst hA
    exact ⟨g, rfl, by simp [Value.ownBlock]⟩
/-- The cell at c of the element behind p: what it is; another in its place. -/
theorem OwV_focus {w : World} {B K n cap g i : Nat} {e : TypeId} {p q : List (List DV)} {x : List DV} {bs : List Nat} (h : OwV w B (.row e K (p ++ x :: q)) (.slice (some ⟨g, 0, none⟩) n cap) bs) (hn : bs.Nodup) (hi : p.length = i) {c : Nat} {d : DV} (hc : x[c]? = some d) :
    ∃ vd bd, w.cell? ⟨g, i * K + c, none⟩ = some vd ∧ w.frozen? ⟨g, i * K + c, none⟩ = false ∧ OwV w B d vd bd ∧ bd.Nodup ∧ g ∉ bd ∧ (∀ b ∈ bd, b ∈ bs) ∧
      (∀ w' d', OwV w' B d' vd bd → (∀ b ∈ bs, b ∉ bd → w'.heap[b]? = w.heap[b]?) → OwV w' B (.row e K (p ++ x.set c d' :: q)) (.slice (some ⟨g, 0, none⟩) n cap) bs) ∧
      (bd = [] → ∀ u', OwV (w.setCell ⟨g, i * K + c, none⟩ u') B (.row e K (p ++ x.set c (.pl u') :: q)) (.slice (some ⟨g, 0, none⟩) n cap) bs) := by
  rw [OwV] at h
  obtain ⟨vs, bs', hown, hE, rfl⟩ := h
  have hnl : n = (p ++ x :: q).length := by
    rcases hown.2 with ⟨h, _⟩ | ⟨g', c', cur, h, _⟩
    · cases h
    · injection h
  rw [← hnl] at hown
  obtain ⟨vp, vx, vq, bp, bx, bq, rfl, rfl, h1, hk, h2, h3⟩ := OwVE_split p hE
  have hcl : c < x.length := (List.getElem?_eq_some_iff.1 hc).1
  have hxe : x = x.take c ++ d :: x.drop (c + 1) := by
    have e1 : x[c] = d := (List.getElem?_eq_some_iff.1 hc).2
    rw [← e1, ← List.drop_eq_getElem_cons hcl, List.take_append_drop]
  have hset : ∀ d', x.set c d' = x.take c ++ d' :: x.drop (c + 1) := fun d' => by rw [List.set_eq_take_append_cons_drop, if_pos hcl]
  have h2' := h2
  rw [hxe] at h2'
  obtain ⟨v1, v, v2, b1, bd, b2, rfl, rfl, h4, h5, h6⟩ := OwVs_split _ h2'
  have hvp : vp.length = i * K := by rw [OwVE_length h1, hi]
  have hv1 : v1.length = c := by rw [OwVs_length h4, List.length_take]; omega
  have hlen : (p ++ x :: q).length = i + 1 + q.length := by rw [List.length_append, List.length_cons, hi]; omega
  have hix : i * K + c < n * K := by
    rw [hnl, hlen, show i + 1 + q.length = i + (1 + q.length) by omega, Nat.add_mul]
    have : 1 * K ≤ (1 + q.length) * K := Nat.mul_le_mul_right _ (by omega)
    omega
  have hcell : w.cell? ⟨g, i * K + c, none⟩ = some v := by
    rw [World.ownsRow.cellAt hown _ hix, List.getElem?_append_right (by omega), hvp, show i * K + c - i * K = c by omega, List.getElem?_append_left (by simp; omega), List.getElem?_append_right (by omega), hv1, Nat.sub_self]
    rfl
  simp only [Value.ownBlock, Option.toList_some, List.singleton_append, List.nodup_cons] at hn
  obtain ⟨hng, hn⟩ := hn
  rw [List.nodup_append, List.nodup_append, List.nodup_append, List.nodup_append] at hn
  obtain ⟨np, ⟨⟨nb1, ⟨nbd, nb2, dis1⟩, dis2⟩, nbq, dis3⟩, dis4⟩ := hn
  have join : ∀ (w' : World) (d' : DV) (v' : Value) (vs' : List Value), vs' = vp ++ ((v1 ++ v' :: v2) ++ vq) → w'.ownsRow B e K (.slice (some ⟨g, 0, none⟩) n cap) n vs' → OwV w' B d' v' bd → (∀ b ∈ bp ++ (b1 ++ (bd ++ b2) ++ bq), b ∉ bd → w'.heap[b]? = w.heap[b]?) → OwV w' B (.row e K (p ++ x.set c d' :: q)) (.slice (some ⟨g, 0, none⟩) n cap) ((Value.slice (some ⟨g, 0, none⟩) n cap).ownBlock.toList ++ (bp ++ (b1 ++ (bd ++ b2) ++ bq))) := by
    intro w' d' v' vs' hvs ho hd hb
    rw [OwV]
    refine ⟨vs', _, by rw [show (p ++ x.set c d' :: q).length = n by rw [hnl]; simp]; exact ho, ?_, rfl⟩
    rw [hvs]
    refine OwVE_join p (OwVE_frame p (fun b hm => hb b (by simp [hm]) (fun hm2 => dis4 b hm b (by simp [hm2]) rfl)) h1) (by rw [List.length_set]; exact hk) ?_ (OwVE_frame q (fun b hm => hb b (by simp [hm]) (fun hm2 => dis3 b (by simp [hm2]) b hm rfl)) h3)
    rw [hset]
    exact OwVs_join _ (OwVs_frame _ (fun b hm => hb b (by simp [hm]) (fun hm2 => dis2 b hm b (by simp [hm2]) rfl)) h4) hd (OwVs_frame _ (fun b hm => hb b (by simp [hm]) (fun hm2 => dis1 b hm2 b hm rfl)) h6)
  refine ⟨v, bd, hcell, hown.frozenAt _, h5, nbd, fun hm => hng (by simp [hm]), fun b hm => by simp [hm], fun w' d' hd hb => ?_, fun hbd u' => ?_⟩
  · refine join w' d' v _ rfl (own_same hown fun b hbv => ?_) hd fun b hm hnm => hb b (by simp at hm ⊢; right; exact hm) hnm
    have hbg : b = g := by simpa [Value.ownBlock] using hbv.symm
    subst hbg
    exact hb b (by simp [Value.ownBlock]) (fun hm => hng (by simp [hm]))
  · subst hbd
    refine join _ (.pl u') u' ((vp ++ ((v1 ++ v :: v2) ++ vq)).set (i * K + c) u') ?_ (hown.stored (i * K + c) u').1 (by rw [OwV]; exact ⟨rfl, rfl⟩) fun b hm _ => by refine Below.heap_setCell _ _ _ _ ?_; intro e; exact hng (by rw [← (show b = g from e)]; exact hm)
    rw [List.set_append_right _ _ (by omega), hvp, show i * K + c - i * K = c by omega, List.set_append_left _ _ (by simp; omega), List.set_append_right _ _ (by omega), hv1, Nat.sub_self]
    rfl
theorem OwV_plain_at {w : World} {B K n cap g i : Nat} {e : TypeId} {p q : List (List DV)} {x : List DV} {bs : List Nat} (h : OwV w B (.row e K (p ++ x :: q)) (.slice (some ⟨g, 0, none⟩) n cap) bs) (hn : bs.Nodup) (hi : p.length = i) {c : Nat} {u : Value} (hc : x[c]? = some (.pl u)) :
    w.cell? ⟨g, i * K + c, none⟩ = some u ∧ w.frozen? ⟨g, i * K + c, none⟩ = false ∧ ∀ u', OwV (w.setCell ⟨g, i * K + c, none⟩ u') B (.row e K (p ++ x.set c (.pl u') :: q)) (.slice (some ⟨g, 0, none⟩) n cap) bs := by
  obtain ⟨vd, bd, h1, h2, h3, _, _, _, _, h4⟩ := OwV_focus h hn hi hc
  rw [OwV] at h3
  obtain ⟨rfl, rfl⟩ := h3
  exact ⟨h1, h2, h4 rfl⟩
/-- The value at c of a struct: what it is; another in its place. -/
theorem OwVs_focus {w : World} {B : Nat} {ds : List DV} {vs : List Value} {bs : List Nat} (h : OwVs w B ds vs bs) (hn : bs.Nodup) {c : Nat} {d : DV} (hc : ds[c]? = some d) :
    ∃ v bd, vs[c]? = some v ∧ OwV w B d v bd ∧ bd.Nodup ∧ (∀ b ∈ bd, b ∈ bs) ∧
      (∀ w' d', OwV w' B d' v bd → (∀ b ∈ bs, b ∉ bd → w'.heap[b]? = w.heap[b]?) → OwVs w' B (ds.set c d') vs bs) := by
  have hcl : c < ds.length := (List.getElem?_eq_some_iff.1 hc).1
  have hxe : ds = ds.take c ++ d :: ds.drop (c + 1) := by
    have e1 : ds[c] = d := (List.getElem?_eq_some_iff.1 hc).2
    rw [← e1, ← List.drop_eq_getElem_cons hcl, List.take_append_drop]
  have hset : ∀ d', ds.set c d' = ds.take c ++ d' :: ds.drop (c + 1) := fun d' => by rw [List.set_eq_take_append_cons_drop, if_pos hcl]
  rw [hxe] at h
  obtain ⟨v1, v, v2, b1, bd, b2, rfl, rfl, h4, h5, h6⟩ := OwVs_split _ h
  have hv1 : v1.length = c := by rw [OwVs_length h4, List.length_take]; omega
  rw [List.nodup_append, List.nodup_append] at hn
  obtain ⟨nb1, ⟨nbd, nb2, dis1⟩, dis2⟩ := hn
  refine ⟨v, bd, by rw [List.getElem?_append_right (by omega), hv1, Nat.sub_self]; rfl, h5, nbd, fun b hm => by simp [hm], fun w' d' hd hb => ?_⟩
  rw [hset]
  exact OwVs_join _ (OwVs_frame _ (fun b hm => hb b (by simp [hm]) (fun hm2 => dis2 b hm b (by simp [hm2]) rfl)) h4) hd (OwVs_frame _ (fun b hm => hb b (by simp [hm]) (fun hm2 => dis1 b hm2 b hm rfl)) h6)
/-- A struct by value, its rows marked. -/
def DV.tcnt : DV → Nat
  | .pl _ => 0
  | .row _ _ xs => DV.cntE xs
def tcntL : List DV → Nat
  | [] => 0
  | d :: r => d.tcnt + tcntL r
def DV.tmk (k : Nat) : DV → DV
  | .pl u => .pl u
  | .row e s xs => .row e s (vmkE k xs)
def tmkL (k : Nat) : List DV → List DV
  | [] => []
  | d :: r => d.tmk k :: tmkL (k + d.tcnt) r
end Go.Proofs.Ytenjlgcdbnddjaa

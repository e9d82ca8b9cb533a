/- The reference model's copies: types in memory of their own. -/
import Derived.Test.YtngbilblddngcaaDoorZCopyI
import Derived.Test.YtngbilblddngcaaDoorQ1
import Derived.Deep.RegionHeld3
namespace Go.Proofs.YtngbilblddngcaaDoor
open Go.RowKit Go.Lib

def CopyV (N : Nat) : Prop := ∀ (x : TypeX) (A : Option Addr) (c : Nat) (w : World), x.size ≤ N → N ≤ 4294967296 → TypeRow w (Und w.heap.size) A c x.args_ →
  Calls Tryd.prog 73 #[.agg #[.int .i64 x.kind_, .string x.name_, .slice A x.args_.length c]] w (MadeV x.cells w)
def CopiesV (N : Nat) : Prop := ∀ (l : List TypeX) (A : Option Addr) (c : Nat) (w : World), TypeX.sizeL l ≤ N → N ≤ 4294967296 → TypeRow w (Und w.heap.size) A c l →
  Calls Tryd.prog 81 #[.slice A l.length c] w (MadeR (.row 26 3 (TypeX.rows l)) w)

set_option maxRecDepth 100000 in
set_option maxHeartbeats 2000000 in
theorem copyV_step (N : Nat) (ih : CopiesV N) : CopyV (N + 1) := by
  intro x A c w hn hN hx
  obtain ⟨W, hW⟩ : ∃ W, W = (w.alloc (.cells #[.int .i64 x.kind_, .string x.name_, .slice A x.args_.length c] 26)).alloc (.cells #[.int .i64 0, .string ⟨#[]⟩, .slice none 0 0] 26) := ⟨_, rfl⟩
  have hb0 : Below w.heap.size w W := by rw [hW]; exact ((Below.refl _ _).alloc (Nat.le_refl _) _).alloc (by simp) _
  have hs : W.heap.size = w.heap.size + 2 := by rw [hW]; simp
  have hx1 : Whole W w.heap.size 26 #[.int .i64 x.kind_, .string x.name_, .slice A x.args_.length c] := by rw [hW]; exact (Whole.new w _ _).below ((Below.refl (w.heap.size + 1) _).alloc (by simp) _) (by omega)
  have hx2 : Whole W (w.heap.size + 1) 26 #[.int .i64 0, .string ⟨#[]⟩, .slice none 0 0] := by
    have h := Whole.new (w.alloc (.cells #[.int .i64 x.kind_, .string x.name_, .slice A x.args_.length c] 26)) 26 #[.int .i64 0, .string ⟨#[]⟩, .slice none 0 0]
    rw [World.size_alloc] at h; rw [hW]; exact h
  have hc := ih x.args_ A c W.drew (by rw [TypeX.size_eq] at hn; omega) (by omega) ((hx.grow hb0).frame (fun _ h => h) fun _ _ _ => rfl)
  have HC := Lib.hid hc
  have HW := Lib.hid hW.symm
  have HB := Lib.hid hb0
  have HS := Lib.hid hs
  have HX1 := Lib.hid hx1
  have HX2 := Lib.hid hx2
  clear hx hW hb0 hs hx1 hx2 hc
  go_enter Tryd.func73, Tryd.ntmps73
  go_upto_region 1 with (fail)
  rw [HW.out]
  obtain ⟨p0, p1, p2⟩ := cells3 HX1.out
  obtain ⟨r0, r1, r2⟩ := cells3 HX2.out
  have rf0 := HX2.out.frozen 0
  have rf1 := HX2.out.frozen 1
  have rf2 := HX2.out.frozen 2
  have hlt := HX2.out.lt
  have H2E := Lib.hid (fun (w2 : World) (h : Below W.heap.size W w2) => HX2.out.below h HX2.out.lt)
  have H1E := Lib.hid (fun (w2 : World) (h : Below W.heap.size W w2) => HX1.out.below h HX1.out.lt)
  go_region_held3 (fun w' => w'.cell? ⟨w.heap.size, 0, none⟩ = some (.int .i64 x.kind_) ∧ w'.cell? ⟨w.heap.size, 1, none⟩ = some (.string x.name_) ∧ w'.cell? ⟨w.heap.size, 2, none⟩ = some (.slice A x.args_.length c))
    (first
      | go_keep
      | exact cells3 (H1E.out _ hb2))
    (first
      | (go_at_call 81
         refine HC.out.mono ?_
         rintro e w2 ⟨v, bs, rfl, hO, hnd, hb2⟩
         have hb2 : Below W.heap.size W w2 := (Below.refl _ W).drew.trans hb2
         obtain ⟨A2, c2, rfl⟩ := OwV_shape hO (TypeX.rows_length _)
         have hx2 := H2E.out w2 hb2
         obtain ⟨z0, z1, z2⟩ := cells3 hx2
         have zf0 := hx2.frozen 0
         have zf1 := hx2.frozen 1
         have zf2 := hx2.frozen 2
         have zlt := hx2.lt
         have hend := tyEndY (k := x.kind_) (s := x.name_) (A := A2) (n := x.args_.length) (cc := c2) hx2 (Nat.le_succ _) (HB.out.trans (hb2.mono HB.out.size))
         have HE := Lib.hid hend
         have HO := Lib.hid hO
         have HN := Lib.hid hnd
         clear hend hO hnd hx2))
  all_goals
    obtain ⟨e0, e1, e2, hbut, hb4⟩ := HE.out _ rfl
    have hO4 := made_in (X := w.heap.size + 1) (y := .mk x.kind_ x.name_ x.args_) (cells_own (k := x.kind_) (s := x.name_) HO.out) (by have := HS.out; show _ < W.heap.size; omega) hbut
    have HO4 := Lib.hid hO4
    have HB4 := Lib.hid hb4
    clear hbut hb4 hO4
    go_wp2
    exact bodyPost_ret (v := .agg #[.int .i64 x.kind_, .string x.name_, .slice A2 x.args_.length c2]) (by simp [results, Tryd.results73, go_sem, e0, e1, e2]) rfl ⟨_, _, rfl, OwVs_wide (by have := HS.out; show w.heap.size ≤ W.heap.size; omega) _ (by cases x; exact HO4.out), HN.out, HB4.out⟩

set_option maxRecDepth 100000 in
set_option maxHeartbeats 4000000 in
theorem copiesV_step (N : Nat) (ih : CopyV N) : CopiesV N := by
  intro l A c w hn hN hA
  obtain ⟨i0, hi, hz0, hz1, hz2⟩ := info_parts infoTy
  have hcap := hA.cap
  have hll := sizeL_length l
  have hb0 : Below w.heap.size w (w.alloc (.cells #[] 26)) := (Below.refl _ _).alloc (Nat.le_refl _) _
  have hown := World.ownsRow_made (base := w.heap.size) (e := 26) (size := 3) w #[] 0 (Nat.le_refl _) (by decide) rfl
  have HA := Lib.hid hA
  have HN := Lib.hid hn
  have HB := Lib.hid hb0
  have HO := Lib.hid hown
  clear hA hn hb0 hown
  go_enter Tryd.func81, Tryd.ntmps81
  go_wp2
  go_loopw [3, 4] (fun ov iv wr => ∃ (k : Nat), k ≤ l.length ∧ iv = .int .i64 k ∧ MoreT w.heap.size (l.take k) ov wr ∧ Below w.heap.size w wr) (fun _ iv _ => l.length - (Go.RowKit.intOf iv).toNat)
  case atStart => exact ⟨0, Nat.zero_le _, rfl, ⟨[], [], HO.out, by rw [List.take_zero, TypeX.rows, OwVE]; exact ⟨rfl, rfl⟩, by simp [Value.ownBlock]⟩, HB.out⟩
  case round =>
    obtain ⟨k, hk, rfl, ⟨vs, bs, hown, hE, hnd⟩, hb⟩ := hrel
    obtain ⟨A1, c1, rfl⟩ := own_nil hown
    by_cases hlt : k < l.length
    · obtain ⟨b, o, A2, c2, rfl, hP, p0, p1, p2, h2⟩ := (HA.out.grow hb).at_ hlt
      have hsx : l[k].size ≤ N := by have := TypeX.sizeL_at l k hlt; have := HN.out; omega
      have hlen : (l.take k).length = k := by rw [List.length_take]; omega
      have HC := Lib.hid (ih l[k] A2 c2 wr hsx hN h2)
      have HOW := Lib.hid hown
      have HE := Lib.hid hE
      have HND := Lib.hid hnd
      have HL := Lib.hid hlen
      clear h2 hown hE hnd hlen
      go_wp2_with fail
      refine HC.out.mono ?_
      intro e w6 hm
      obtain ⟨vs6, b6, A3, c3, rfl, rfl, hO6, hn6, hb6⟩ := madeT_get hm
      have hown6 := owns_below HOW.out hb6
      rw [HL.out] at hown6
      have hbw := hb.trans (hb6.mono hb.size)
      have HO2 := Lib.hid (hown6.alloc (.cells #[.int .i64 l[k].kind_, .string l[k].name_, .slice A3 l[k].args_.length c3] 26))
      have HNW := Lib.hid (news3 w6 26 (.int .i64 l[k].kind_) (.string l[k].name_) (.slice A3 l[k].args_.length c3))
      have HO6 := Lib.hid hO6
      have HB6 := Lib.hid hb6
      have HN6 := Lib.hid hn6
      have hk3 : k ≤ 4294967296 := by have := HN.out; omega
      have hbase : w.heap.size ≤ w6.heap.size + 1 := by have := hbw.size; omega
      rw [HL.out]
      clear hm hown6 hO6 hb6 hn6 p0 p1 p2
      go_wp2_with (at_builtin; refine wpList_append_any rfl (.tmp 12) (.tmp 18) 24 rfl w.heap.size 26 i0 (.agg #[.int .i64 0, .string ByteArray.empty, .slice none 0 0]) 3 48 Tryd.underlying24 hi hz0 hz1 hz2 rfl (by decide) (.slice A1 k c1) k vs rfl HO2.out (some ⟨w6.heap.size, 0, none⟩) 1 1 [.int .i64 l[k].kind_, .string l[k].name_, .slice A3 l[k].args_.length c3] rfl rfl (.inr ⟨_, rfl, HNW.out⟩) (one3 _ _ _ _ _) (by unfold maxLen; omega) (by omega) (by simpa using hbase) (w6.heap.size + 1) (by simp) ?_)
      intro V' w7 hown7 hgrow7 hat7
      have hpush : MoreT w.heap.size (l.take k ++ [l[k]]) V' w7 := MoreT.push (x := l[k]) HOW.out HE.out HND.out HB6.out rfl HO6.out HN6.out hb.size (by rw [HL.out]; exact hown7) (by rw [HL.out]; exact hgrow7) (by rw [HL.out]; exact hat7)
      rw [← List.take_succ_eq_append_getElem hlt] at hpush
      have hbk := (hbw.alloc hbw.size (.cells #[.int .i64 l[k].kind_, .string l[k].name_, .slice A3 l[k].args_.length c3] 26)).grown hgrow7 (by simpa using hbase) (fun j e => (HO2.out.lt j e).1)
      have HP := Lib.hid hpush
      have HBK := Lib.hid hbk
      clear hpush hown7 hgrow7 hat7 hbk
      go_wp2
      go_roundw
      case rel => exact ⟨k + 1, by omega, by go_num, HP.out, HBK.out⟩
      case measure => simp [Go.RowKit.intOf]; omega
    · obtain rfl : k = l.length := by omega
      rw [List.take_length] at hown hE
      obtain ⟨bs2, hrow, hnd2⟩ := MoreT.row ⟨vs, bs, hown, hE, by rw [List.take_length] at hnd; exact hnd⟩
      have HR := Lib.hid hrow
      have HD := Lib.hid hnd2
      rw [List.take_length]
      clear hown hE hnd hrow hnd2
      go_wp2
      go_ret
      exact ⟨_, _, rfl, HR.out, HD.out, hb⟩
theorem copyV_zero : CopyV 0 := by
  intro x A c w hn _ _
  rw [TypeX.size_eq] at hn
  omega
theorem copyV_all : ∀ N, CopyV N
  | 0 => copyV_zero
  | N + 1 => copyV_step N (copiesV_step N (copyV_all N))
theorem specCopy (x : TypeX) (A : Option Addr) (c : Nat) (w : World) (hx : x.size ≤ 4294967296) (hv : TypeRow w (Und w.heap.size) A c x.args_) :
    Calls Tryd.prog 73 #[.agg #[.int .i64 x.kind_, .string x.name_, .slice A x.args_.length c]] w (MadeV x.cells w) := copyV_all x.size x A c w (Nat.le_refl _) hx hv
end Go.Proofs.YtngbilblddngcaaDoor

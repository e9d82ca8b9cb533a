/- The program's Apply. -/
import Derived.Test.YtpffmcofajlkgaaZCopyI
import Derived.Deep.RegionHeld3
namespace Go.Proofs.Ytpffmcofajlkgaa
open Go.RowKit Go.Lib

/-- The substitution that a list of bindings is. -/
def subX (l : List BindingX) (s : ByteArray) : Option TypeX := lookX s l
/-- The bindings' types are not too large. -/
def SmallX (l : List BindingX) : Prop := ∀ s y, lookX s l = some y → y.size ≤ 4294967296

theorem SubstAt.lt {w : World} {P : Nat → Prop} {b : Nat} {l : List BindingX} (h : SubstAt w P b l) : b < w.heap.size := by
  obtain ⟨vl, h, _⟩ := h
  exact h.lt

set_option maxRecDepth 100000 in
set_option maxHeartbeats 4000000 in
theorem implApply (l : List BindingX) (A : Option Addr) (c : Nat) (x : TypeX) (D : Option Addr) (d : Nat) (w : World) (hx : x.size ≤ 4294967296) (hl : SmallX l) (hA : BindingRow w (Und w.heap.size) A c l) (hv : TypeRow w (Und w.heap.size) D d x.args_) :
    Calls Try.prog 11 #[.slice A l.length c, .agg #[.int .i64 x.kind_, .string x.name_, .slice D x.args_.length d]] w (MadeV (x.sub (subX l)).cells w) := by
  obtain ⟨W, hW⟩ : ∃ W, W = (w.alloc (.cells #[.int .i64 x.kind_, .string x.name_, .slice D x.args_.length d] 26)).alloc (.cells #[.int .i64 0, .string ⟨#[]⟩, .slice none 0 0] 26) := ⟨_, rfl⟩
  have hb0 : Below w.heap.size w W := by rw [hW]; exact ((Below.refl _ _).alloc (Nat.le_refl _) _).alloc (by simp) _
  have hs : W.heap.size = w.heap.size + 2 := by rw [hW]; simp
  have hx1 : Whole W w.heap.size 26 #[.int .i64 x.kind_, .string x.name_, .slice D x.args_.length d] := by rw [hW]; exact (Whole.new w _ _).below ((Below.refl (w.heap.size + 1) _).alloc (by simp) _) (by omega)
  have hx2 : Whole W (w.heap.size + 1) 26 #[.int .i64 0, .string ⟨#[]⟩, .slice none 0 0] := by
    have h := Whole.new (w.alloc (.cells #[.int .i64 x.kind_, .string x.name_, .slice D x.args_.length d] 26)) 26 #[.int .i64 0, .string ⟨#[]⟩, .slice none 0 0]
    rw [World.size_alloc] at h; rw [hW]; exact h
  have HAD := Lib.hid (show BindingRow W.drew (Und W.drew.heap.size) A c l from (hA.grow hb0).frame (fun _ h => h) fun _ _ _ => rfl)
  have HVW := Lib.hid (hv.grow hb0)
  have HW := Lib.hid hW.symm
  have HB := Lib.hid hb0
  have HS := Lib.hid hs
  have HX1 := Lib.hid hx1
  have HX2 := Lib.hid hx2
  have HL := Lib.hid hl
  clear hA hv hW hb0 hs hx1 hx2 hl
  go_enter Try.func11, Try.ntmps11
  go_upto_region 1 with (fail)
  rw [HW.out]
  obtain ⟨p0, p1, p2⟩ := cells3 HX1.out
  obtain ⟨r0, r1, r2⟩ := cells3 HX2.out
  have rf0 := HX2.out.frozen 0
  have rf1 := HX2.out.frozen 1
  have rf2 := HX2.out.frozen 2
  have hlt := HX2.out.lt
  have H2E := Lib.hid (fun (w2 : World) (h : Below W.heap.size W w2) => HX2.out.below h HX2.out.lt)
  have H1E := Lib.hid (fun (w2 : World) (h : Below W.heap.size W w2) => HX1.out.below h HX1.out.lt)
  go_region_held3 (fun w' => w'.cell? ⟨w.heap.size, 0, none⟩ = some (.int .i64 x.kind_) ∧ w'.cell? ⟨w.heap.size, 1, none⟩ = some (.string x.name_) ∧ w'.cell? ⟨w.heap.size, 2, none⟩ = some (.slice D x.args_.length d))
    (first
      | go_keep
      | exact cells3 (H1E.out _ hb3)
      | exact cells3 (H1E.out _ hb2))
    (first
      | (go_at_call 26
         refine (implSubstOf l A c W.drew HAD.out).mono ?_
         rintro e w2 ⟨rfl, hm2, hb2⟩
         have hb2 : Below W.heap.size W w2 := (Below.refl _ W).drew.trans hb2
         have hm2 : SubstAt w2 (Und W.heap.size) W.heap.size (firstX l) := hm2
         have HM2 := Lib.hid hm2
         have HV2 := Lib.hid (HVW.out.grow hb2)
         clear hm2)
      | (go_at_call 25
         refine (implReplace (subX l) x D d (some W.heap.size) w2 hx HV2.out (looks_subst HM2.out (SubstAt.lt HM2.out) rfl) (fun s y h A c W hv => implCopy y A c W (HL.out s y h) hv)).mono ?_
         intro e w3 hm
         obtain ⟨vs, bs, A3, c3, rfl, rfl, hO3, hn3, hb3⟩ := madeT_get hm
         have hsz := hb2.size
         have hb3 : Below W.heap.size W w3 := hb2.trans (hb3.mono hb2.size)
         have hz3 := H2E.out w3 hb3
         obtain ⟨z0, z1, z2⟩ := cells3 hz3
         have zf0 := hz3.frozen 0
         have zf1 := hz3.frozen 1
         have zf2 := hz3.frozen 2
         have zlt := hz3.lt
         have hend := tyEndY (k := (x.sub (subX l)).kind_) (s := (x.sub (subX l)).name_) (A := A3) (n := (x.sub (subX l)).args_.length) (cc := c3) hz3 (Nat.le_succ _) (HB.out.trans (hb3.mono HB.out.size))
         have HE := Lib.hid hend
         have HO := Lib.hid hO3
         have HN := Lib.hid hn3
         clear hend hO3 hn3 hm hz3))
  all_goals
    obtain ⟨e0, e1, e2, hbut, hb4⟩ := HE.out _ rfl
    have HO4 := Lib.hid (made_in HO.out (by have := HS.out; have := SubstAt.lt HM2.out; omega) hbut)
    have HB4 := Lib.hid hb4
    clear hbut hb4
    go_wp2
    exact bodyPost_ret (v := .agg #[.int .i64 (x.sub (subX l)).kind_, .string (x.sub (subX l)).name_, .slice A3 (x.sub (subX l)).args_.length c3]) (by simp [results, Try.results11, go_sem, e0, e1, e2]) rfl ⟨_, _, rfl, OwVs_wide (by have := HS.out; have := SubstAt.lt HM2.out; omega) _ HO4.out, HN.out, HB4.out⟩
end Go.Proofs.Ytpffmcofajlkgaa

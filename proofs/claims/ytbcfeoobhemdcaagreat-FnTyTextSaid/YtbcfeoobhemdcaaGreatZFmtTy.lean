/- FormatType: the reference model's and the program's. -/
import Derived.Test.YtbcfeoobhemdcaaGreatZToSx
import Derived.Test.YtbcfeoobhemdcaaGreatQ2
import Derived.Test.YtbcfeoobhemdcaaGreatQ1
namespace Go.Proofs.YtbcfeoobhemdcaaGreat
open Go.RowKit Go.Lib

mutual
theorem wt_ok : ∀ x : SX, x.wt ≤ 9223372036854775807 → x.ok
  | .mk a l, h => by
    rw [SX.wt] at h
    have h2 := SX.wtL_length l
    rw [SX.ok]
    exact ⟨by omega, by omega, wtL_ok l (by omega)⟩
theorem wtL_ok : ∀ l : List SX, SX.wtL l ≤ 9223372036854775807 → SX.okL l
  | [], _ => by rw [SX.okL]; trivial
  | x :: r, h => by
    rw [SX.wtL] at h
    rw [SX.okL]
    exact ⟨wt_ok x (by omega), wtL_ok r (by omega)⟩
end
/-- The text of a type. -/
def TypeX.txt (x : TypeX) : ByteArray := if x.valid then x.sx.said else ⟨#[]⟩
theorem txt_yes {x : TypeX} (h : x.valid = true) : x.txt = x.sx.said := by rw [TypeX.txt, if_pos h]
theorem txt_no {x : TypeX} (h : x.valid = false) : x.txt = ⟨#[]⟩ := by rw [TypeX.txt, if_neg (by rw [h]; decide)]

set_option maxRecDepth 100000 in
set_option maxHeartbeats 1000000 in
theorem specFmtTy (x : TypeX) (v : Value) (w : World) (hok : DV.okL x.cells) (hsz : x.size ≤ 4294967296) (hv : TypeAt w (Und w.heap.size) x v) :
    Calls Tryz.prog 11 #[v] w fun e w' => e = .returned (.string x.txt) ∧ Below w.heap.size w w' := by
  obtain ⟨A, c, rfl, hx⟩ := hv
  have hb0 : Below w.heap.size w (w.alloc (.cells #[.int .i64 x.kind_, .string x.name_, .slice A x.args_.length c] 26)) := (Below.refl _ _).alloc (Nat.le_refl _) _
  have HB := Lib.hid hb0
  have HW := Lib.hid (Whole.new w 26 #[.int .i64 x.kind_, .string x.name_, .slice A x.args_.length c])
  have HR := Lib.hid (hx.grow hb0)
  have HOK := Lib.hid hok
  clear hb0 hx hok
  go_enter Tryz.func11, Tryz.ntmps11
  go_wp2_with fail
  refine (specValidTy x _ _ HOK.out ⟨_, _, rfl, HR.out⟩).mono ?_
  cases hv : x.valid with
  | false =>
    have HN := Lib.hid (txt_no hv)
    clear hv
    rintro e w1 ⟨rfl, hb1⟩
    have h1 : Below w.heap.size w w1 := HB.out.trans (hb1.mono HB.out.size)
    go_wp2
    go_ret
    exact ⟨by rw [HN.out]; rfl, h1⟩
  | true =>
    have HN := Lib.hid (txt_yes hv)
    have hbr := (form_brief x (valid_parts hv).2.2).1
    have hyv := sx_valid hv
    rintro e w1 ⟨rfl, hb1⟩
    have h1 : Below w.heap.size w w1 := HB.out.trans (hb1.mono HB.out.size)
    have hw1 := HW.out.below hb1 HW.out.lt
    obtain ⟨p0, p1, p2⟩ := cells3 hw1
    have pl := hw1.lt
    have HC := Lib.hid (specSxAll _ x A c w1 (Nat.le_refl _) hsz hbr (HR.out.grow hb1))
    have HB1 := Lib.hid h1
    obtain ⟨y, hy⟩ : ∃ y : SX, y = x.sx := ⟨_, rfl⟩
    rw [← hy] at HC hyv HN
    have hyw := SX.valid_wt hyv
    have hyo := wt_ok y (by omega)
    have hyn : y.nodes ≤ 4294967296 := by omega
    have HYO := Lib.hid hyo
    clear hbr hv hw1 h1 hb1 hy hyv hyw hyo
    go_wp2_with fail
    refine HC.out.mono ?_
    rintro e w3 ⟨V, rfl, hr, hb⟩
    obtain ⟨A', c', rfl⟩ := hr.shape
    have hl : ListAt w3 (Lt w3.heap.size) A' y.list := hr.list.frame (fun b h => h.1.2) fun _ _ _ => rfl
    have HL := Lib.hid hl
    have h3 : Below w.heap.size w w3 := HB1.out.trans (hb.mono HB1.out.size)
    clear hl hb p0 p1 p2 pl
    go_wp2_with fail
    refine (formatX y A' c' _ hyn HYO.out HL.out).mono ?_
    rintro e w4 ⟨rfl, hb4⟩
    have h4 : Below w.heap.size w w4 := h3.trans (hb4.mono h3.size)
    go_wp2
    go_ret
    exact ⟨by rw [HN.out]; rfl, h4⟩

set_option maxRecDepth 100000 in
set_option maxHeartbeats 1000000 in
theorem implFmtTy (x : TypeX) (v : Value) (w : World) (hok : DV.okL x.cells) (hsz : x.size ≤ 4294967296) (hv : TypeAt w (Und w.heap.size) x v) :
    Calls Tryz.prog 6 #[v] w fun e w' => e = .returned (.string x.txt) ∧ Below w.heap.size w w' := by
  obtain ⟨A, c, rfl, hx⟩ := hv
  have hb0 : Below w.heap.size w (w.alloc (.cells #[.int .i64 x.kind_, .string x.name_, .slice A x.args_.length c] 26)) := (Below.refl _ _).alloc (Nat.le_refl _) _
  have HB := Lib.hid hb0
  have HW := Lib.hid (Whole.new w 26 #[.int .i64 x.kind_, .string x.name_, .slice A x.args_.length c])
  have HR := Lib.hid (hx.grow hb0)
  have HOK := Lib.hid hok
  clear hb0 hx hok
  go_enter Tryz.func6, Tryz.ntmps6
  go_wp2_with fail
  refine (implTyValidI x _ _ HOK.out hsz ⟨_, _, rfl, HR.out⟩).mono ?_
  cases hv : x.valid with
  | false =>
    have HN := Lib.hid (txt_no hv)
    clear hv
    rintro e w1 ⟨rfl, hb1⟩
    have h1 : Below w.heap.size w w1 := HB.out.trans (hb1.mono HB.out.size)
    go_wp2
    go_ret
    exact ⟨by rw [HN.out]; rfl, h1⟩
  | true =>
    have HN := Lib.hid (txt_yes hv)
    have hbr := (form_brief x (valid_parts hv).2.2).1
    have hyv := sx_valid hv
    rintro e w1 ⟨rfl, hb1⟩
    have h1 : Below w.heap.size w w1 := HB.out.trans (hb1.mono HB.out.size)
    have hw1 := HW.out.below hb1 HW.out.lt
    obtain ⟨p0, p1, p2⟩ := cells3 hw1
    have pl := hw1.lt
    have HC := Lib.hid (encode x A c w1 hsz hbr (form_brief x (valid_parts hv).2.2).2 (HR.out.grow hb1))
    have HB1 := Lib.hid h1
    obtain ⟨y, hy⟩ : ∃ y : SX, y = x.sx := ⟨_, rfl⟩
    rw [← hy] at HC hyv HN
    have hyw := SX.valid_wt hyv
    have hyo := wt_ok y (by omega)
    have hyn : y.nodes ≤ 4294967296 := by omega
    have HYO := Lib.hid hyo
    clear hbr hv hw1 h1 hb1 hy hyv hyw hyo
    go_wp2_with fail
    refine HC.out.mono ?_
    rintro e w3 ⟨A', c', bs, rfl, ho, hn, hin, hb⟩
    have hl : ListAt w3 (Lt w3.heap.size) A' y.list := OwX_list y (fun b hm => (hin b hm).2) ho
    have HL := Lib.hid hl
    have h3 : Below w.heap.size w w3 := HB1.out.trans (hb.mono HB1.out.size)
    clear hl hb p0 p1 p2 pl
    go_wp2_with fail
    refine (implFormat y A' c' _ hyn HYO.out HL.out).mono ?_
    rintro e w4 ⟨rfl, hb4⟩
    have h4 : Below w.heap.size w w4 := h3.trans (hb4.mono h3.size)
    go_wp2
    go_ret
    exact ⟨by rw [HN.out]; rfl, h4⟩
end Go.Proofs.YtbcfeoobhemdcaaGreat

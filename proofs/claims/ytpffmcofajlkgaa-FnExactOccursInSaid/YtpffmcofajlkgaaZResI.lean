/- (*unifier).resolve, resolvedArgs: what stands in place of a type under the bindings made so far. -/
import Derived.Test.YtpffmcofajlkgaaZMapU
import Derived.Test.YtpffmcofajlkgaaZMatRoots
import Derived.Deep.CutRange
namespace Go.Proofs.Ytpffmcofajlkgaa
open Go.RowKit Go.Lib

/-- How far the way still is. -/
def rankX (σ : List BindingX) (cl : ByteArray → Nat) (x : TypeX) : Nat := if x.kind_ = 1 ∧ (lookX x.name_ σ).isSome = true then cl x.name_ + 2 else 1
theorem rankX_next {σ : List BindingX} {cl : ByteArray → Nat} (hcl : ∀ s y, lookX s σ = some y → y.kind_ = 1 → (lookX y.name_ σ).isSome = true → cl y.name_ < cl s) {x y : TypeX} (hk : x.kind_ = 1) (hl : lookX x.name_ σ = some y) : rankX σ cl y < rankX σ cl x := by
  rw [rankX, rankX, if_pos (c := x.kind_ = 1 ∧ _) ⟨hk, by rw [hl]; rfl⟩]
  split
  · rename_i h
    have := hcl _ _ hl h.1 h.2
    omega
  · omega
theorem rankX_pos (σ : List BindingX) (cl : ByteArray → Nat) (x : TypeX) : 1 ≤ rankX σ cl x := by rw [rankX]; split <;> omega
/-- On the way: what the box holds; the names behind. -/
def WayAt (σ acc : List BindingX) (cl : ByteArray → Nat) (P : Nat → Prop) (t : TypeX) (w : World) (gk : Nat) (v : Value) (wr : World) : Prop :=
  ∃ (cur : TypeX) (D : Option Addr) (d : Nat) (ws : List ByteArray), Whole wr w.heap.size 26 #[.int .i64 cur.kind_, .string cur.name_, .slice D cur.args_.length d] ∧ Whole wr (w.heap.size + 1) 26 #[.int .i64 0, .string ⟨#[]⟩, .slice none 0 0] ∧ wr.ownsRow (w.heap.size + 2) 9 1 v ws.length (ws.map Value.string) ∧
    TypeRow w P D d cur.args_ ∧ cur.sub (subX acc) = t.sub (subX acc) ∧ (∀ s ∈ ws, lookX s acc = some (t.sub (subX acc))) ∧ gk = rankX σ cl cur ∧ ws.length + gk ≤ σ.length + 2 ∧ Below w.heap.size w wr
/-- What resolve leaves. -/
def ResOut (acc : List BindingX) (P : Nat → Prop) (Bu : Nat) (mo : Option Nat) (V : Value) (t : TypeX) (w : World) (e : Ending) (w' : World) : Prop :=
  ∃ (r : TypeX) (D : Option Addr) (d : Nat) (σ' : List BindingX), e = .returned (.agg #[.int .i64 r.kind_, .string r.name_, .slice D r.args_.length d]) ∧ ¬ BoundV acc r ∧ r.sub (subX acc) = t.sub (subX acc) ∧ TypeRow w' P D d r.args_ ∧ Tri σ' acc ∧ UniAt P Bu mo V σ' w' ∧ KeptM (fun b => mo = some b) w.heap.size w w'
theorem infoStr : (Try.prog.info? 9).map (fun i => (i.zero, i.size, i.bytes)) = some (some (.string ByteArray.empty), 1, 16) := by kernel_rfl

set_option maxRecDepth 100000 in
set_option maxHeartbeats 8000000 in
theorem implResolve (σ acc : List BindingX) (P : Nat → Prop) (Bu : Nat) (mo : Option Nat) (V : Value) (t : TypeX) (A : Option Addr) (c : Nat) (w : World) (htri : Tri σ acc) (hu : UniAt P Bu mo V σ w) (hP : ∀ b, P b → b < w.heap.size ∧ mo ≠ some b) (hlen : σ.length ≤ 4294967296) (ht : TypeRow w P A c t.args_) :
    Calls Try.prog 55 #[.pointer (some ⟨Bu, 0, none⟩), .agg #[.int .i64 t.kind_, .string t.name_, .slice A t.args_.length c]] w (ResOut acc P Bu mo V t w) := by
  obtain ⟨i0, hi, hz0, hz1, hz2⟩ := info_parts infoStr
  obtain ⟨cl, hcb, hcl⟩ := htri.way
  have hBu := hu.whole.lt
  have hmo := hu.map.lt
  obtain ⟨W, hW⟩ : ∃ W, W = (w.alloc (.cells #[.int .i64 t.kind_, .string t.name_, .slice A t.args_.length c] 26)).alloc (.cells #[.int .i64 0, .string ⟨#[]⟩, .slice none 0 0] 26) := ⟨_, rfl⟩
  have hb0 : Below w.heap.size w W := by rw [hW]; exact ((Below.refl _ _).alloc (Nat.le_refl _) _).alloc (by simp) _
  have hs : W.heap.size = w.heap.size + 2 := by rw [hW]; simp
  have hx1 : Whole W w.heap.size 26 #[.int .i64 t.kind_, .string t.name_, .slice A t.args_.length c] := by rw [hW]; exact (Whole.new w _ _).below ((Below.refl (w.heap.size + 1) _).alloc (by simp) _) (by omega)
  have hx2 : Whole W (w.heap.size + 1) 26 #[.int .i64 0, .string ⟨#[]⟩, .slice none 0 0] := by
    have h := Whole.new (w.alloc (.cells #[.int .i64 t.kind_, .string t.name_, .slice A t.args_.length c] 26)) 26 #[.int .i64 0, .string ⟨#[]⟩, .slice none 0 0]
    rw [World.size_alloc] at h; rw [hW]; exact h
  have hrk : rankX σ cl t ≤ σ.length + 2 := by
    have := hcb t.name_
    rw [rankX]; split <;> omega
  have hstart : WayAt σ acc cl P t w (rankX σ cl t) (.slice none 0 0) W := ⟨t, A, c, [], hx1, hx2, World.ownsRow_nil _ _ _ _, ht, rfl, (fun s h => by cases h), rfl, by simpa using hrk, hb0⟩
  have HS := Lib.hid hstart
  have HT := Lib.hid htri
  have HU := Lib.hid hu
  have HP := Lib.hid hP
  have HCL := Lib.hid hcl
  have HW := Lib.hid hW.symm
  clear hstart htri hu hP hcl hcb hW hx1 hx2 hb0 hs ht hrk
  go_enter Try.func55, Try.ntmps55
  go_upto_region 1 with (fail)
  rw [HW.out]
  go_wp2
  go_loopg [5] (rankX σ cl t) (fun gk v wr => WayAt σ acc cl P t w gk v wr)
  case atStart => exact HS.out
  case round =>
    obtain ⟨cur, D, d, ws, hw0, hw1, hown, hrow, hsub, hws, rfl, hle, hb⟩ := hrel
    obtain ⟨x0, x1, x2⟩ := cells3 hw0
    obtain ⟨AV, cV, rfl⟩ := own_nil hown
    have hrp := rankX_pos σ cl cur
    have hwl : ws.length ≤ 4294967297 := by omega
    have hlt0 := hw0.lt
    have hsz := hb.size
    have HW0 := Lib.hid hw0
    have HW1 := Lib.hid hw1
    have HO := Lib.hid hown
    have HROW := Lib.hid hrow
    have HSUB := Lib.hid hsub
    have HWS := Lib.hid hws
    have HLE := Lib.hid hle
    have HB := Lib.hid hb
    clear hw0 hw1 hown hrow hsub hws hle hb hrp
    go_wp2_with fail
    refine (implIsVar _ _ _ _ _ _).mono ?_
    rintro e w1 ⟨rfl, hb1⟩
    have hb01 := HB.out.trans (hb1.mono hsz)
    have hw0 := HW0.out.below hb1 hlt0
    have hw1 := HW1.out.below hb1 HW1.out.lt
    have hown := owns_below HO.out hb1
    have hlt1 := hw0.lt
    have hlt2 := hw1.lt
    have hsz1 := hb1.size
    have HB1 := Lib.hid hb01
    have HW01 := Lib.hid hw0
    have HW11 := Lib.hid hw1
    have HO1 := Lib.hid hown
    clear hb1 hb01 hw0 hw1 hown x0 x1 x2
    by_cases hk : cur.kind_ = 1
    · have hkb : (cur.kind_ == 1) = true := by rw [hk]; rfl
      rw [hkb]
      obtain ⟨k1, n1, A1, m1, c1, bb, hlk, hbb⟩ := HU.out.map.look cur.name_
      have hla := hlk w1.drew (HB1.out.trans (Below.refl _ _).drew)
      have hlb := hlk (w1.alloc (.cells #[.int .i64 0, .string ⟨#[]⟩, .slice none 0 0] 26)).drew (HB1.out.trans ((Below.refl _ _).alloc HB1.out.size _).drew)
      obtain ⟨x0, x1, x2⟩ := cells3 HW01.out
      have hc0 : w1.cell? ⟨Bu, 0, none⟩ = some (.map mo) := (HB1.out.cell (p := ⟨Bu, 0, none⟩) hBu).trans (by rw [HU.out.whole.cell]; rfl)
      have hBu1 : Bu < w1.heap.size := Nat.lt_of_lt_of_le hBu HB1.out.size
      obtain ⟨w2, hw2⟩ : ∃ w2, w2 = (w1.alloc (.cells #[.int .i64 k1, .string n1, .slice A1 m1 c1] 26)).drew := ⟨_, rfl⟩
      have hb2 : Below w1.heap.size w1 w2 := by rw [hw2]; exact ((Below.refl _ _).alloc (Nat.le_refl _) _).drew
      have hx2 : Whole w2 w1.heap.size 26 #[.int .i64 k1, .string n1, .slice A1 m1 c1] := by rw [hw2]; exact Whole.new w1 _ _
      have HW2 := Lib.hid hw2.symm
      have HB2 := Lib.hid hb2
      have HX2 := Lib.hid hx2
      have HBB := Lib.hid hbb
      have HK := Lib.hid hk
      clear hlk hw2 hb2 hx2 hbb hk
      go_upto_region 3 with (fail)
      go_region
      all_goals
        rw [HW2.out]
        have hw0 := HW01.out.below HB2.out hlt1
        have hw1 := HW11.out.below HB2.out hlt2
        have hown := owns_below HO1.out HB2.out
        have hbw : Below w.heap.size w w2 := HB1.out.trans (HB2.out.mono HB1.out.size)
        have hsz2 := HB2.out.size
        clear x0 x1 x2 hc0 hla hlb
        cases bb with
        | false =>
          have hopen : ¬ BoundV acc cur := HT.out.end_ (by
            rintro ⟨_, h⟩
            rcases HBB.out with ⟨_, hf⟩ | ⟨h', _⟩
            · rw [hf] at h; cases h
            · cases h')
          have HOP := Lib.hid hopen
          have HW0' := Lib.hid hw0
          have HW1' := Lib.hid hw1
          have HOWN := Lib.hid hown
          have HBW := Lib.hid hbw
          have huu := HU.out.below (fun b h => (HP.out b h).1) hbw
          have HUU := Lib.hid huu
          clear hopen hw0 hw1 hown hbw huu
          go_wp2
          obtain ⟨w5, hw5⟩ : ∃ w5, w5 = w2 := ⟨_, rfl⟩
          rw [← hw5] at HW0' HW1' HOWN HBW HUU
          rw [← hw5]
          clear hw5
          go_loopw [32] (fun iv wi => ∃ (k : Nat) (σk : List BindingX), k ≤ ws.length ∧ iv = .int .i64 k ∧ Tri σk acc ∧ UniAt P Bu mo V σk wi ∧ KeptM (fun b => mo = some b) w.heap.size w wi ∧ Whole wi w.heap.size 26 #[.int .i64 cur.kind_, .string cur.name_, .slice D cur.args_.length d] ∧ Whole wi (w.heap.size + 1) 26 #[.int .i64 0, .string ⟨#[]⟩, .slice none 0 0] ∧ wi.ownsRow (w.heap.size + 2) 9 1 (.slice AV ws.length cV) ws.length (ws.map Value.string)) (fun iv _ => ws.length - (Go.RowKit.intOf iv).toNat)
          case atStart => exact ⟨0, σ, Nat.zero_le _, rfl, HT.out, HUU.out, KeptM.of_below HBW.out, HW0'.out, HW1'.out, HOWN.out⟩
          case round =>
            obtain ⟨k, σk, hk, rfl, htk, huk, hkk, hwk0, hwk1, hok⟩ := hrel
            by_cases hlt : k < ws.length
            · obtain ⟨g, hg⟩ : ∃ g, AV = some ⟨g, 0, none⟩ := by
                rcases hok.2 with ⟨_, h⟩ | ⟨g, _, _, h, _⟩
                · rw [h] at hlt; cases hlt
                · injection h with h _ _; exact ⟨g, h⟩
              subst hg
              have hcell : wr.cell? ⟨g, k, none⟩ = some (.string ws[k]) := by
                have h := World.ownsRow.cellAt hok k (by omega)
                rw [List.getElem?_map, List.getElem?_eq_getElem hlt] at h
                exact h
              have hs := hkk.size
              obtain ⟨x0, x1, x2⟩ := cells3 hwk0
              have hc0 : wr.cell? ⟨Bu, 0, none⟩ = some (.map mo) := by rw [huk.whole.cell]; rfl
              have hbd : (lookX ws[k] σk).isSome = true := by rw [some_vars htk.vars, HWS.out _ (List.getElem_mem hlt)]; rfl
              have hPk : ∀ b, P b → b < wr.heap.size := fun b h => Nat.lt_of_lt_of_le (HP.out b h).1 hs
              have hck : ∀ b o, P b → wr.cell? ⟨b, o, none⟩ = w.cell? ⟨b, o, none⟩ := fun b o h => hkk.cell (HP.out b h).1 (HP.out b h).2 o
              obtain ⟨w6, hrun, hm6, hg6, hs6⟩ := MapO.put (w := wr.drew) (P := P) (t := cur) (A := D) (c := d) (huk.map.same (fun _ _ => rfl) (fun _ h => h) fun _ _ _ => rfl) (by rw [htk.vars]; exact htk.nodup) hPk (fun b h => (HP.out b h).2) hbd (HROW.out.frame (fun _ h => h) hck)
              have hmw : ∀ b, mo = some b → b < w.heap.size := hmo
              have hne : ∀ b, w.heap.size ≤ b → some b ≠ mo := fun b h e => by have := hmw b e.symm; omega
              have hb6 : ∀ b, b < wr.heap.size → some b ≠ mo → w6.heap[b]? = wr.heap[b]? := fun b h1 h2 => hg6.block b h1 h2
              have htk6 : Tri (setX ws[k] cur σk) acc := htk.set (by rw [HSUB.out]; exact HWS.out _ (List.getElem_mem hlt)) HOP.out
              have huk6 : UniAt P Bu mo V (setX ws[k] cur σk) w6 := ⟨(hb6 Bu (Nat.lt_of_lt_of_le hBu hs) (fun e => huk.apart e.symm)).trans huk.whole, hm6⟩
              have hkk6 : KeptM (fun b => mo = some b) w.heap.size w w6 := hkk.trans ⟨hg6.os, hg6.tape, hg6.output, hg6.size, fun b h1 h2 => hb6 b (Nat.lt_of_lt_of_le h1 hs) (fun e => h2 e.symm)⟩
              have hwk06 : Whole w6 w.heap.size 26 #[.int .i64 cur.kind_, .string cur.name_, .slice D cur.args_.length d] := (hb6 _ hwk0.lt (hne _ (Nat.le_refl _))).trans hwk0
              have hwk16 : Whole w6 (w.heap.size + 1) 26 #[.int .i64 0, .string ⟨#[]⟩, .slice none 0 0] := (hb6 _ hwk1.lt (hne _ (Nat.le_succ _))).trans hwk1
              have hok6 := own_same (w' := w6) hok fun b hv => hb6 b (hok.lt b hv).2 (hne _ (by have := (hok.lt b hv).1; omega))
              have HALL := Lib.hid (And.intro htk6 (And.intro huk6 (And.intro hkk6 (And.intro hwk06 (And.intro hwk16 hok6)))))
              have hl0 := hwk0.lt
              have hgl := (hok.lt g rfl).2
              have hBl : Bu < wr.heap.size := huk.whole.lt
              clear htk huk hkk hwk0 hwk1 hok htk6 huk6 hkk6 hwk06 hwk16 hok6 hm6 hg6 hb6 hbd hPk hck
              go_upto_region 10 with (fail)
              go_region
              all_goals
                go_wp2
                go_roundw
                case rel => exact ⟨k + 1, _, by omega, by go_num, HALL.out⟩
                case measure => simp [Go.RowKit.intOf]; omega
            · obtain rfl : k = ws.length := by omega
              obtain ⟨x0, x1, x2⟩ := cells3 hwk0
              obtain ⟨z0, z1, z2⟩ := cells3 hwk1
              have zf0 := hwk1.frozen 0
              have zf1 := hwk1.frozen 1
              have zf2 := hwk1.frozen 2
              have zl := hwk1.lt
              have xl := hwk0.lt
              have hs := hkk.size
              have hend := tyEndB (k := cur.kind_) (s := cur.name_) (A := D) (n := cur.args_.length) (cc := d) hwk1
              have HE := Lib.hid hend
              have HTK := Lib.hid htk
              have HUK := Lib.hid huk
              have HKK := Lib.hid hkk
              clear htk huk hkk hwk0 hwk1 hok hend
              go_wp2
              obtain ⟨e0, e1, e2, hbut⟩ := HE.out _ rfl
              have hbb := hbut.to_below (B := w.heap.size) (Nat.le_succ _) hs
              refine bodyPost_ret (v := .agg #[.int .i64 cur.kind_, .string cur.name_, .slice D cur.args_.length d]) (by simp [results, Try.results55, go_sem, e0, e1, e2]) rfl ⟨cur, D, d, σk, rfl, HOP.out, HSUB.out, ?_, HTK.out, HUK.out.same (hbut.block _ HUK.out.whole.lt (by omega)) (fun mb e => hbut.block _ (HUK.out.map.lt mb e) (by have := hmo mb e; omega)) (fun b o h => hbb.cell (p := ⟨b, o, none⟩) (HP.out b h).1), HKK.out.trans (KeptM.of_below hbb)⟩
              exact HROW.out.frame (fun _ h => h) fun b o h => (hbb.cell (p := ⟨b, o, none⟩) (HP.out b h).1).trans (HKK.out.cell (HP.out b h).1 (HP.out b h).2 o)
        | true =>
          obtain ⟨y, hy, rfl, rfl, rfl, hyr⟩ : ∃ y, lookX cur.name_ σ = some y ∧ k1 = y.kind_ ∧ n1 = y.name_ ∧ m1 = y.args_.length ∧ TypeRow w P A1 c1 y.args_ := by
            rcases HBB.out with ⟨h, _⟩ | ⟨_, y, h1, h2, h3, h4, h5⟩
            · cases h
            · exact ⟨y, h1, h2, h3, h4, h5⟩
          have hstep := HT.out.step HK.out hy
          have hmem : lookX cur.name_ acc = some (t.sub (subX acc)) := by
            have h1 := HT.out.full _ _ hy
            rw [hstep, HSUB.out] at h1
            exact h1
          have hrn := rankX_next HCL.out HK.out hy
          obtain ⟨x0, x1, x2⟩ := cells3 hw0
          obtain ⟨y0, y1, y2⟩ := cells3 HX2.out
          have hf0 := hw0.frozen 0
          have hf1 := hw0.frozen 1
          have hf2 := hw0.frozen 2
          have hl0 := hw0.lt
          have hl2 := HX2.out.lt
          have HOW := Lib.hid (hown.alloc (.cells #[.string cur.name_] 9))
          have HNW := Lib.hid (news_one w2 9 (.string cur.name_))
          have HW0' := Lib.hid hw0
          have HW1' := Lib.hid hw1
          have HBW := Lib.hid hbw
          have HOWN := Lib.hid hown
          have HRN := Lib.hid hrn
          have HST := Lib.hid (hstep.trans HSUB.out)
          have HMEM := Lib.hid hmem
          have HYR := Lib.hid hyr
          have hbs : w.heap.size + 2 ≤ w2.heap.size := by omega
          clear hw0 hw1 hbw hown hrn hstep hmem hyr
          go_wp2_with (at_builtin; refine wpList_append_any rfl (.tmp 24) (.tmp 27) 50 rfl (w.heap.size + 2) 9 i0 (.string ByteArray.empty) 1 16 Try.underlying50 hi hz0 hz1 hz2 rfl (by decide) (.slice AV ws.length cV) ws.length _ rfl HOW.out (some ⟨w2.heap.size, 0, none⟩) 1 1 [.string cur.name_] rfl rfl (.inr ⟨_, rfl, HNW.out⟩) (by simp [Value.oneCell']) (by unfold maxLen; omega) (by omega) (by simp; omega) (w2.heap.size + 1) (by simp) ?_)
          intro v' w4 hown4 hgrow4 hat4
          have hg4 : ∀ b, b < w2.heap.size → (Value.slice AV ws.length cV).ownBlock ≠ some b → w4.heap[b]? = w2.heap[b]? := fun b h1 h2 => (hgrow4.block b (by simp; omega) (fun e => h2 e.symm)).trans (Below.heap_alloc _ _ _ h1)
          have hvo : ∀ b, (Value.slice AV ws.length cV).ownBlock = some b → w.heap.size + 2 ≤ b := fun b h => (HOWN.out.lt b h).1
          have hw04 : Whole w4 w.heap.size 26 #[.int .i64 cur.kind_, .string cur.name_, .slice D cur.args_.length d] := (hg4 _ (by omega) (fun h => by have := hvo _ h; omega)).trans HW0'.out
          have hw14 : Whole w4 (w.heap.size + 1) 26 #[.int .i64 0, .string ⟨#[]⟩, .slice none 0 0] := (hg4 _ (by omega) (fun h => by have := hvo _ h; omega)).trans HW1'.out
          have hx24 : Whole w4 w1.heap.size 26 #[.int .i64 y.kind_, .string y.name_, .slice A1 y.args_.length c1] := by
            refine (hg4 _ hl2 (fun h => ?_)).trans HX2.out
            have := (HO1.out.lt _ h).2
            omega
          have hb4 : Below w.heap.size w w4 := (HBW.out.alloc HBW.out.size _).grown hgrow4 (by simp; omega) (fun j e => by have := hvo j e; omega)
          obtain ⟨x0, x1, x2⟩ := cells3 hw04
          obtain ⟨y0, y1, y2⟩ := cells3 hx24
          have hf0 := hw04.frozen 0
          have hf1 := hw04.frozen 1
          have hf2 := hw04.frozen 2
          have hl04 := hw04.lt
          have hl24 := hx24.lt
          have hfin : ∀ w5, w5 = ((w4.setCell ⟨w.heap.size, 0, none⟩ (.int .i64 y.kind_)).setCell ⟨w.heap.size, 1, none⟩ (.string y.name_)).setCell ⟨w.heap.size, 2, none⟩ (.slice A1 y.args_.length c1) → WayAt σ acc cl P t w (rankX σ cl y) v' w5 := by
            rintro w5 rfl
            refine ⟨y, A1, c1, ws ++ [cur.name_], ?_, ((hw14.far (by omega) _ _).far (by omega) _ _).far (by omega) _ _, ?_, HYR.out, HST.out, ?_, rfl, ?_, ((hb4.setCell (p := ⟨w.heap.size, 0, none⟩) (Nat.le_refl _) _).setCell (p := ⟨w.heap.size, 1, none⟩) (Nat.le_refl _) _).setCell (p := ⟨w.heap.size, 2, none⟩) (Nat.le_refl _) _⟩
            · simpa using ((hw04.set_ 0 (.int .i64 y.kind_)).set_ 1 (.string y.name_)).set_ 2 (.slice A1 y.args_.length c1)
            · rw [List.length_append, List.length_singleton, List.map_append, List.map_singleton]
              exact own_same hown4 fun b hv => by
                have hne : b ≠ w.heap.size := by have := (hown4.lt b hv).1; omega
                rw [Below.heap_setCell _ _ _ _ hne, Below.heap_setCell _ _ _ _ hne, Below.heap_setCell _ _ _ _ hne]
            · intro s hs
              rcases List.mem_append.1 hs with h | h
              · exact HWS.out s h
              · rw [List.mem_singleton] at h; subst h; exact HMEM.out
            · have := HLE.out
              have := HRN.out
              rw [List.length_append, List.length_singleton]; omega
          have HFIN := Lib.hid hfin
          clear hfin hown4 hgrow4 hat4 hg4 hvo hw04 hw14 hx24 hb4
          go_wp2
          go_roundg (rankX σ cl y)
          case measure => exact HRN.out
          case rel => exact HFIN.out _ rfl
    · have hkb : (cur.kind_ == 1) = false := by simpa using hk
      rw [hkb]
      have hopen : ¬ BoundV acc cur := fun h => hk h.1
      have hw0 := HW01.out
      have hw1 := HW11.out
      have hown := HO1.out
      have hbw := HB1.out
      have HOP := Lib.hid hopen
      have HW0' := Lib.hid hw0
      have HW1' := Lib.hid hw1
      have HOWN := Lib.hid hown
      have HBW := Lib.hid hbw
      have huu := HU.out.below (fun b h => (HP.out b h).1) hbw
      have HUU := Lib.hid huu
      clear hopen hw0 hw1 hown hbw huu
      go_wp2
      obtain ⟨w5, hw5⟩ : ∃ w5, w5 = w1 := ⟨_, rfl⟩
      rw [← hw5] at HW0' HW1' HOWN HBW HUU
      rw [← hw5]
      clear hw5
      go_loopw [32] (fun iv wi => ∃ (k : Nat) (σk : List BindingX), k ≤ ws.length ∧ iv = .int .i64 k ∧ Tri σk acc ∧ UniAt P Bu mo V σk wi ∧ KeptM (fun b => mo = some b) w.heap.size w wi ∧ Whole wi w.heap.size 26 #[.int .i64 cur.kind_, .string cur.name_, .slice D cur.args_.length d] ∧ Whole wi (w.heap.size + 1) 26 #[.int .i64 0, .string ⟨#[]⟩, .slice none 0 0] ∧ wi.ownsRow (w.heap.size + 2) 9 1 (.slice AV ws.length cV) ws.length (ws.map Value.string)) (fun iv _ => ws.length - (Go.RowKit.intOf iv).toNat)
      case atStart => exact ⟨0, σ, Nat.zero_le _, rfl, HT.out, HUU.out, KeptM.of_below HBW.out, HW0'.out, HW1'.out, HOWN.out⟩
      case round =>
        obtain ⟨k, σk, hk, rfl, htk, huk, hkk, hwk0, hwk1, hok⟩ := hrel
        by_cases hlt : k < ws.length
        · obtain ⟨g, hg⟩ : ∃ g, AV = some ⟨g, 0, none⟩ := by
            rcases hok.2 with ⟨_, h⟩ | ⟨g, _, _, h, _⟩
            · rw [h] at hlt; cases hlt
            · injection h with h _ _; exact ⟨g, h⟩
          subst hg
          have hcell : wr.cell? ⟨g, k, none⟩ = some (.string ws[k]) := by
            have h := World.ownsRow.cellAt hok k (by omega)
            rw [List.getElem?_map, List.getElem?_eq_getElem hlt] at h
            exact h
          have hs := hkk.size
          obtain ⟨x0, x1, x2⟩ := cells3 hwk0
          have hc0 : wr.cell? ⟨Bu, 0, none⟩ = some (.map mo) := by rw [huk.whole.cell]; rfl
          have hbd : (lookX ws[k] σk).isSome = true := by rw [some_vars htk.vars, HWS.out _ (List.getElem_mem hlt)]; rfl
          have hPk : ∀ b, P b → b < wr.heap.size := fun b h => Nat.lt_of_lt_of_le (HP.out b h).1 hs
          have hck : ∀ b o, P b → wr.cell? ⟨b, o, none⟩ = w.cell? ⟨b, o, none⟩ := fun b o h => hkk.cell (HP.out b h).1 (HP.out b h).2 o
          obtain ⟨w6, hrun, hm6, hg6, hs6⟩ := MapO.put (w := wr.drew) (P := P) (t := cur) (A := D) (c := d) (huk.map.same (fun _ _ => rfl) (fun _ h => h) fun _ _ _ => rfl) (by rw [htk.vars]; exact htk.nodup) hPk (fun b h => (HP.out b h).2) hbd (HROW.out.frame (fun _ h => h) hck)
          have hmw : ∀ b, mo = some b → b < w.heap.size := hmo
          have hne : ∀ b, w.heap.size ≤ b → some b ≠ mo := fun b h e => by have := hmw b e.symm; omega
          have hb6 : ∀ b, b < wr.heap.size → some b ≠ mo → w6.heap[b]? = wr.heap[b]? := fun b h1 h2 => hg6.block b h1 h2
          have htk6 : Tri (setX ws[k] cur σk) acc := htk.set (by rw [HSUB.out]; exact HWS.out _ (List.getElem_mem hlt)) HOP.out
          have huk6 : UniAt P Bu mo V (setX ws[k] cur σk) w6 := ⟨(hb6 Bu (Nat.lt_of_lt_of_le hBu hs) (fun e => huk.apart e.symm)).trans huk.whole, hm6⟩
          have hkk6 : KeptM (fun b => mo = some b) w.heap.size w w6 := hkk.trans ⟨hg6.os, hg6.tape, hg6.output, hg6.size, fun b h1 h2 => hb6 b (Nat.lt_of_lt_of_le h1 hs) (fun e => h2 e.symm)⟩
          have hwk06 : Whole w6 w.heap.size 26 #[.int .i64 cur.kind_, .string cur.name_, .slice D cur.args_.length d] := (hb6 _ hwk0.lt (hne _ (Nat.le_refl _))).trans hwk0
          have hwk16 : Whole w6 (w.heap.size + 1) 26 #[.int .i64 0, .string ⟨#[]⟩, .slice none 0 0] := (hb6 _ hwk1.lt (hne _ (Nat.le_succ _))).trans hwk1
          have hok6 := own_same (w' := w6) hok fun b hv => hb6 b (hok.lt b hv).2 (hne _ (by have := (hok.lt b hv).1; omega))
          have HALL := Lib.hid (And.intro htk6 (And.intro huk6 (And.intro hkk6 (And.intro hwk06 (And.intro hwk16 hok6)))))
          have hl0 := hwk0.lt
          have hgl := (hok.lt g rfl).2
          have hBl : Bu < wr.heap.size := huk.whole.lt
          clear htk huk hkk hwk0 hwk1 hok htk6 huk6 hkk6 hwk06 hwk16 hok6 hm6 hg6 hb6 hbd hPk hck
          go_upto_region 10 with (fail)
          go_region
          all_goals
            go_wp2
            go_roundw
            case rel => exact ⟨k + 1, _, by omega, by go_num, HALL.out⟩
            case measure => simp [Go.RowKit.intOf]; omega
        · obtain rfl : k = ws.length := by omega
          obtain ⟨x0, x1, x2⟩ := cells3 hwk0
          obtain ⟨z0, z1, z2⟩ := cells3 hwk1
          have zf0 := hwk1.frozen 0
          have zf1 := hwk1.frozen 1
          have zf2 := hwk1.frozen 2
          have zl := hwk1.lt
          have xl := hwk0.lt
          have hs := hkk.size
          have hend := tyEndB (k := cur.kind_) (s := cur.name_) (A := D) (n := cur.args_.length) (cc := d) hwk1
          have HE := Lib.hid hend
          have HTK := Lib.hid htk
          have HUK := Lib.hid huk
          have HKK := Lib.hid hkk
          clear htk huk hkk hwk0 hwk1 hok hend
          go_wp2
          obtain ⟨e0, e1, e2, hbut⟩ := HE.out _ rfl
          have hbb := hbut.to_below (B := w.heap.size) (Nat.le_succ _) hs
          refine bodyPost_ret (v := .agg #[.int .i64 cur.kind_, .string cur.name_, .slice D cur.args_.length d]) (by simp [results, Try.results55, go_sem, e0, e1, e2]) rfl ⟨cur, D, d, σk, rfl, HOP.out, HSUB.out, ?_, HTK.out, HUK.out.same (hbut.block _ HUK.out.whole.lt (by omega)) (fun mb e => hbut.block _ (HUK.out.map.lt mb e) (by have := hmo mb e; omega)) (fun b o h => hbb.cell (p := ⟨b, o, none⟩) (HP.out b h).1), HKK.out.trans (KeptM.of_below hbb)⟩
          exact HROW.out.frame (fun _ h => h) fun b o h => (hbb.cell (p := ⟨b, o, none⟩) (HP.out b h).1).trans (HKK.out.cell (HP.out b h).1 (HP.out b h).2 o)

theorem run_args (k : Int) (s : ByteArray) (D : Option Addr) (n d : Nat) (w : World) : (Instr.field 26 (.agg #[.int .i64 k, .string s, .slice D n d]) 2).run Try.prog w = .ok (.slice D n d) w := by kernel_rfl
set_option maxRecDepth 100000 in
set_option maxHeartbeats 4000000 in
/-- The arguments of what stands there. -/
theorem implResArgs (σ acc : List BindingX) (P : Nat → Prop) (Bu : Nat) (mo : Option Nat) (V : Value) (t : TypeX) (A : Option Addr) (c : Nat) (w : World) (htri : Tri σ acc) (hu : UniAt P Bu mo V σ w) (hP : ∀ b, P b → b < w.heap.size ∧ mo ≠ some b) (hlen : σ.length ≤ 4294967296) (ht : TypeRow w P A c t.args_) :
    Calls Try.prog 54 #[.pointer (some ⟨Bu, 0, none⟩), .agg #[.int .i64 t.kind_, .string t.name_, .slice A t.args_.length c]] w fun e w' =>
      ∃ (r : TypeX) (D : Option Addr) (d : Nat) (σ' : List BindingX), e = .returned (.slice D r.args_.length d) ∧ ¬ BoundV acc r ∧ r.sub (subX acc) = t.sub (subX acc) ∧ TypeRow w' P D d r.args_ ∧ Tri σ' acc ∧ UniAt P Bu mo V σ' w' ∧ KeptM (fun b => mo = some b) w.heap.size w w' := by
  obtain ⟨W, hW⟩ : ∃ W, W = w.alloc (.cells #[.int .i64 t.kind_, .string t.name_, .slice A t.args_.length c] 26) := ⟨_, rfl⟩
  have hb0 : Below w.heap.size w W := by rw [hW]; exact (Below.refl _ _).alloc (Nat.le_refl _) _
  have hx1 : Whole W w.heap.size 26 #[.int .i64 t.kind_, .string t.name_, .slice A t.args_.length c] := by rw [hW]; exact Whole.new w _ _
  have hcall := implResolve σ acc P Bu mo V t A c W htri (hu.below (fun b h => (hP b h).1) hb0) (fun b h => ⟨Nat.lt_of_lt_of_le (hP b h).1 hb0.size, (hP b h).2⟩) hlen (ht.frame (fun _ h => h) fun b o h => hb0.cell (p := ⟨b, o, none⟩) (hP b h).1)
  have HC := Lib.hid hcall
  have HB := Lib.hid hb0
  have HX1 := Lib.hid hx1
  have HW := Lib.hid hW.symm
  clear hcall hb0 hx1 hW ht hu
  go_enter Try.func54, Try.ntmps54
  go_upto_region 1 with (fail)
  rw [HW.out]
  obtain ⟨x0, x1, x2⟩ := cells3 HX1.out
  have hl := HX1.out.lt
  go_wp2_with fail
  refine HC.out.mono ?_
  rintro e w2 ⟨r, D, d, σ', rfl, h1, h2, h3, h4, h5, h6⟩
  have hfd := run_args r.kind_ r.name_ D r.args_.length d w2
  have HA := Lib.hid (And.intro h1 (And.intro h2 (And.intro h3 (And.intro h4 (And.intro h5 ((KeptM.of_below HB.out).trans (h6.mono HB.out.size fun _ _ h => h)))))))
  clear h1 h2 h3 h4 h5 h6
  go_wp2
  go_ret
  exact ⟨r, D, d, σ', rfl, HA.out⟩
end Go.Proofs.Ytpffmcofajlkgaa

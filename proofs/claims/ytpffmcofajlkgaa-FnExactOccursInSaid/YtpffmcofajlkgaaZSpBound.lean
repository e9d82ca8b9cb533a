/- The reference model's binding of a variable in unification. -/
import Derived.Test.YtpffmcofajlkgaaZSpApply
import Derived.Test.YtpffmcofajlkgaaZSpMatchA
import Derived.Test.YtpffmcofajlkgaaZMguP
import Derived.Test.YtpffmcofajlkgaaQ1
namespace Go.Proofs.Ytpffmcofajlkgaa
open Go.RowKit Go.Lib

/-- A new row of one binding. -/
theorem row_aloneB {w : World} {P : Nat → Prop} {v : ByteArray} {x : TypeX} {A : Option Addr} {c : Nat} (hP : ∀ b, P b → b < w.heap.size) (h : TypeRow w P A c x.args_) :
    BindingRow (w.alloc (.cells #[.string v, .int .i64 x.kind_, .string x.name_, .slice A x.args_.length c] 37)) (fun b => P b ∨ b = w.heap.size) (some ⟨w.heap.size, 0, none⟩) 1 [.mk v x] := by
  have hb : Below w.heap.size w (w.alloc (.cells #[.string v, .int .i64 x.kind_, .string x.name_, .slice A x.args_.length c] 37)) := (Below.refl _ _).alloc (Nat.le_refl _) _
  have hw := Whole.new w 37 #[.string v, .int .i64 x.kind_, .string x.name_, .slice A x.args_.length c]
  have hx := h.frame (Q := fun b => P b ∨ b = w.heap.size) (fun _ h => .inl h) fun b o h => hb.cell (p := ⟨b, o, none⟩) (hP b h)
  refine RdV_row.2 ⟨some ⟨w.heap.size, 0, none⟩, 1, rfl, Nat.le_refl _, by decide, .inr ⟨w.heap.size, 0, rfl, .inr rfl, [.string v, .int .i64 x.kind_, .string x.name_, .slice A x.args_.length c], ?_, fun i u hi => ?_⟩⟩
  · rw [BindingX.rows_map, List.map_cons, List.map_nil, RdVE]
    refine ⟨[.string v, .int .i64 x.kind_, .string x.name_, .slice A x.args_.length c], [], rfl, BindingX.cells_length _, ?_, by rw [RdVE]⟩
    rw [BindingX.cells_eq]
    simp only [RdVs]
    exact ⟨_, _, rfl, by rw [RdV_pl]; rfl, _, _, rfl, by rw [RdV_pl]; rfl, _, _, rfl, by rw [RdV_pl]; rfl, _, _, rfl, hx, rfl⟩
  · rw [Nat.zero_add, hw.cell]
    simpa using hi
/-- The bindings so far, brought up to date. -/
def upX (v : ByteArray) (t : TypeX) (l : List BindingX) : List BindingX := l.map fun b => .mk b.var_ (b.type_.sub (subX [.mk v t]))
theorem upX_len (v : ByteArray) (t : TypeX) (l : List BindingX) : (upX v t l).length = l.length := by rw [upX, List.length_map]
theorem upX_take (v : ByteArray) (t : TypeX) (l : List BindingX) (k : Nat) (h : k < l.length) : upX v t (l.take (k + 1)) = upX v t (l.take k) ++ [.mk l[k].var_ (l[k].type_.sub (subX [.mk v t]))] := by
  rw [upX, upX, List.take_succ_eq_append_getElem h, List.map_append]; rfl
set_option maxRecDepth 100000 in
set_option maxHeartbeats 4000000 in
theorem specBound (l : List BindingX) (A : Option Addr) (c : Nat) (v : ByteArray) (t : TypeX) (D : Option Addr) (d : Nat) (w : World) (ht : t.size ≤ 4294967296) (hl : ∀ b ∈ l, b.type_.size ≤ 4294967296) (hln : l.length ≤ 4294967295) (hA : BindingRow w (Und w.heap.size) A c l) (hD : TypeRow w (Und w.heap.size) D d t.args_) :
    Calls Try.prog 99 #[.slice A l.length c, .string v, .agg #[.int .i64 t.kind_, .string t.name_, .slice D t.args_.length d]] w (MadeR (.row 37 4 (BindingX.rows (boundX l v t))) w) := by
  obtain ⟨i0, hi, hz0, hz1, hz2⟩ := info_parts infoBd
  obtain ⟨W1, hW1⟩ : ∃ W1, W1 = w.alloc (.cells #[.int .i64 t.kind_, .string t.name_, .slice D t.args_.length d] 26) := ⟨_, rfl⟩
  have hs1 : W1.heap.size = w.heap.size + 1 := by rw [hW1]; simp
  have hb1 : Below w.heap.size w W1 := by rw [hW1]; exact (Below.refl _ _).alloc (Nat.le_refl _) _
  have hx1 : Whole W1 w.heap.size 26 #[.int .i64 t.kind_, .string t.name_, .slice D t.args_.length d] := by rw [hW1]; exact Whole.new w _ _
  obtain ⟨W2, hW2⟩ : ∃ W2, W2 = W1.alloc (.cells #[] 37) := ⟨_, rfl⟩
  have hs2 : W2.heap.size = w.heap.size + 2 := by rw [hW2]; simp [hs1]
  have hb2 : Below W1.heap.size W1 W2 := by rw [hW2]; exact (Below.refl _ _).alloc (Nat.le_refl _) _
  have hk2 : KeptAt w.heap.size [] (.slice (some ⟨w.heap.size + 1, 0, none⟩) 0 0) W2 := by
    have := kept_empty W1 w.heap.size (by omega)
    rw [hs1, ← hW2] at this; exact this
  obtain ⟨W, hW⟩ : ∃ W, W = W2.alloc (.cells #[.string v, .int .i64 t.kind_, .string t.name_, .slice D t.args_.length d] 37) := ⟨_, rfl⟩
  have hs : W.heap.size = w.heap.size + 3 := by rw [hW]; simp [hs2]
  have hb3 : Below W2.heap.size W2 W := by rw [hW]; exact (Below.refl _ _).alloc (Nat.le_refl _) _
  have hb20 : Below w.heap.size w W2 := hb1.trans (hb2.mono (by omega))
  have hbW : Below w.heap.size w W := hb20.trans (hb3.mono (by omega))
  have hone : BindingRow W (fun b => b < w.heap.size ∨ b = w.heap.size + 1 + 1) (some ⟨w.heap.size + 1 + 1, 0, none⟩) 1 [.mk v t] := by
    have := row_aloneB (v := v) (w := W2) (P := Und w.heap.size) (fun b h => by have : b < w.heap.size := h; omega) (hD.frame (fun _ h => h) fun b o h => hb20.cell (p := ⟨b, o, none⟩) h)
    rw [hs2, ← hW] at this; exact this
  have hkW := hk2.below hb3
  have hxW : Whole W w.heap.size 26 #[.int .i64 t.kind_, .string t.name_, .slice D t.args_.length d] := (hx1.below hb2 hx1.lt).below hb3 (by omega)
  have HWW := Lib.hid (show (((w.alloc (.cells #[.int .i64 t.kind_, .string t.name_, .slice D t.args_.length d] 26)).alloc (.cells #[] 37)).alloc (.cells #[.string v, .int .i64 t.kind_, .string t.name_, .slice D t.args_.length d] 37)) = W by rw [hW, hW2, hW1])
  have HA := Lib.hid hA
  have HD := Lib.hid hD
  have HL := Lib.hid hl
  have HONE := Lib.hid hone
  have HX := Lib.hid hxW
  have HK := Lib.hid hkW
  have HB := Lib.hid hbW
  have HS := Lib.hid hs
  clear hA hD hl hone hxW hkW hbW hs hs1 hs2 hb1 hb2 hb3 hb20 hx1 hk2 hW hW1 hW2
  go_enter Try.func99, Try.ntmps99
  go_wp2_with fail
  rw [HWW.out]
  go_loopw [7, 9] (fun kv iv wr => ∃ k : Nat, k ≤ l.length ∧ iv = .int .i64 k ∧ KeptAt w.heap.size (upX v t (l.take k)) kv wr ∧ (∀ b, kv.ownBlock = some b → b = w.heap.size + 1 ∨ W.heap.size ≤ b) ∧ (∀ b, b < W.heap.size → b ≠ w.heap.size + 1 → wr.heap[b]? = W.heap[b]?) ∧ W.heap.size ≤ wr.heap.size ∧ Below w.heap.size w wr) (fun _ iv _ => l.length - (Go.RowKit.intOf iv).toNat)
  case atStart => exact ⟨0, Nat.zero_le _, rfl, HK.out, fun b h => by simp [Value.ownBlock] at h; exact .inl h.symm, fun _ _ _ => rfl, Nat.le_refl _, HB.out⟩
  case round =>
    obtain ⟨k, hk, rfl, hkept, hob, hfr, hsr, hb⟩ := hrel
    by_cases hlt : k < l.length
    · obtain ⟨b, o, A3, c3, rfl, hP, p0, p1, p2, p3, h3⟩ := (HA.out.grow hb).at_ hlt
      have hP2 : b < wr.heap.size := hP
      obtain ⟨y, hy⟩ : ∃ y, y = l[k].type_.sub (subX [.mk v t]) := ⟨_, rfl⟩
      have hup := upX_take v t l k hlt
      rw [← hy] at hup
      have hcall := specApply [.mk v t] (some ⟨w.heap.size + 1 + 1, 0, none⟩) 1 l[k].type_ A3 c3 wr.drew (HL.out _ (List.getElem_mem hlt)) (fun b hb => by rw [List.mem_singleton.1 hb]; exact ht)
        (HONE.out.frame (fun b h => by
          have hS := HS.out
          show b < wr.drew.heap.size
          rw [World.size_drew]
          rcases h with h | h <;> omega) fun b o h => World.cell?_of_block (a := ⟨b, o, none⟩) (hfr b (by have hS := HS.out; rcases h with h | h <;> omega) (by rcases h with h | h <;> omega)))
        (h3.grow ((Below.refl _ wr).drew))
      rw [← hy] at hcall
      have hkl : (upX v t (l.take k)).length = k := by rw [upX_len, List.length_take]; omega
      obtain ⟨acc, hacc⟩ : ∃ acc, acc = upX v t (l.take k) := ⟨_, rfl⟩
      rw [← hacc] at hkept hup hkl
      obtain ⟨vs, bs', hown, hE, hnd⟩ := hkept
      have hkl2 : acc.length + 1 ≤ 4294967297 := by omega
      have HC := Lib.hid hcall
      have HO := Lib.hid hown
      have HE := Lib.hid hE
      have HND := Lib.hid hnd
      have HUP := Lib.hid hup
      have HBW := Lib.hid hb
      have HOB := Lib.hid hob
      have HFR := Lib.hid hfr
      have HSR := Lib.hid hsr
      obtain ⟨Av, cv, hV⟩ := own_nil hown
      subst hV
      clear h3 hy hup hcall hown hE hnd hacc hkl hob hfr hsr
      go_wp2_with fail
      go_region_law (first
        | (refine step_append_lies _ (by rfl) _ _ _ (by rfl) w.heap.size 37 i0 _ 4 64 Try.underlying29 hi hz0 hz1 hz2 rfl (by omega) (.slice Av acc.length cv) acc.length vs (by rfl) (hown6.alloc _)
             ⟨w6.heap.size, 0, none⟩ 1 1 [.string l[k].var_, .int .i64 y.kind_, .string y.name_, .slice A6 y.args_.length c6] (by rfl) (by rfl) (news4 w6 _ _ _ _ _) (one4 _ _ _ _ _ _) (by omega) (by unfold maxLen; omega) (by omega) (by have := HBW.out.size; simp; omega) (w6.heap.size + 1) (by simp) ?_
           intro g' cap' w7 hown7 hgrow7 hat7 hlt7)
        | (go_simp
           go_at_call 42
           refine HC.out.mono ?_
           intro e w6 hm
           obtain ⟨vs6, bs6, A6, c6, rfl, rfl, hO6, hn6, hb6⟩ := madeT_get hm
           have hb6' := (Below.refl _ wr).drew.trans hb6
           have hown6 := owns_below HO.out hb6'
           have hs6 : wr.heap.size ≤ w6.heap.size := hb6'.size
           have x6 : w6.cell? ⟨b, o + k * 4, none⟩ = some (.string l[k].var_) := (hb6'.cell (p := ⟨b, o + k * 4, none⟩) hP2).trans p0
           clear hm hb6))
      all_goals (
        have hat8 : (Value.slice (some ⟨g', 0, none⟩) (acc.length + 1) cap').ownBlock = (Value.slice Av acc.length cv).ownBlock ∨ (Value.slice (some ⟨g', 0, none⟩) (acc.length + 1) cap').ownBlock = some (w6.heap.size + 1) := by
          rcases hat7 with h | h
          · exact .inl h.symm
          · exact .inr (by rw [← h]; rfl)
        have hpush := KeptAt.push (x := .mk l[k].var_ y) HO.out HE.out HND.out hb6' hO6 hn6 HBW.out.size hown7 hgrow7 hat8
        rw [← HUP.out] at hpush
        have hbw6 := HBW.out.trans (hb6'.mono HBW.out.size)
        have HP := Lib.hid hpush
        have HB7 := Lib.hid ((hbw6.alloc hbw6.size (.cells #[.string l[k].var_, .int .i64 y.kind_, .string y.name_, .slice A6 y.args_.length c6] 37)).grown hgrow7 (by have := hbw6.size; simp; omega) (fun j e => (hown6.lt j e).1))
        have HOB2 := Lib.hid (show ∀ b, (Value.slice (some ⟨g', 0, none⟩) (acc.length + 1) cap').ownBlock = some b → b = w.heap.size + 1 ∨ W.heap.size ≤ b from fun b h => by
          rcases hat8 with h' | h'
          · rw [h'] at h; exact HOB.out b h
          · rw [h'] at h; injection h with h; have := HSR.out; right; omega)
        have HSR2 := Lib.hid (show W.heap.size ≤ w7.heap.size by have := HSR.out; have := hgrow7.size; rw [World.size_alloc] at this; omega)
        have HFR2 := Lib.hid (show ∀ b, b < W.heap.size → b ≠ w.heap.size + 1 → w7.heap[b]? = W.heap[b]? from fun b h1 h2 => by
          have h3 := HSR.out
          rw [hgrow7.block b (by rw [World.size_alloc]; omega) (fun e => by rcases HOB.out b e.symm with h | h <;> omega), Below.heap_alloc _ _ _ (by omega), hb6'.block b (by rw [World.size_drew]; omega)]
          exact HFR.out b h1 h2)
        clear hpush hown7 hgrow7 hat7 hat8 hown6 hO6 hn6 hbw6
        go_wp2
        go_roundw
        case rel => exact ⟨k + 1, by omega, by go_num, HP.out, HOB2.out, HFR2.out, HSR2.out, HB7.out⟩
        case measure => simp [Go.RowKit.intOf]; omega)
    · obtain rfl : k = l.length := by omega
      rw [List.take_length] at hkept
      have hkl := upX_len v t l
      obtain ⟨acc, hacc⟩ : ∃ acc, acc = upX v t l := ⟨_, rfl⟩
      have hbd : boundX l v t = acc ++ [.mk v t] := by rw [hacc]; rfl
      rw [← hacc] at hkept hkl
      obtain ⟨vs, bs', hown, hE, hnd⟩ := hkept
      obtain ⟨Av, cv, hV⟩ := own_nil hown
      subst hV
      have hkl2 : acc.length + 1 ≤ 4294967297 := by omega
      have hcall := specCopy t D d wr ht (HD.out.grow hb)
      have hcl : ∀ (o : Nat), wr.cell? ⟨w.heap.size, o, none⟩ = W.cell? ⟨w.heap.size, o, none⟩ := fun o => World.cell?_of_block (a := ⟨w.heap.size, o, none⟩) (hfr w.heap.size (by have := HS.out; omega) (by omega))
      obtain ⟨p0, p1, p2⟩ := cells3 HX.out
      rw [← hcl] at p0 p1 p2
      have pl : w.heap.size < wr.heap.size := by have := HS.out; omega
      have HC := Lib.hid hcall
      have HO := Lib.hid hown
      have HE := Lib.hid hE
      have HND := Lib.hid hnd
      have HBD := Lib.hid hbd
      have HBW := Lib.hid hb
      clear hcall hown hE hnd hacc hbd hob hfr hsr hcl hkl
      go_wp2_with fail
      refine HC.out.mono ?_
      intro e w6 hm
      obtain ⟨vs6, bs6, A6, c6, rfl, rfl, hO6, hn6, hb6⟩ := madeT_get hm
      have hown6 := owns_below HO.out hb6
      have hbw6 := HBW.out.trans (hb6.mono HBW.out.size)
      have HO2 := Lib.hid (hown6.alloc (.cells #[.string v, .int .i64 t.kind_, .string t.name_, .slice A6 t.args_.length c6] 37))
      have HNW := Lib.hid (news4 w6 37 (.string v) (.int .i64 t.kind_) (.string t.name_) (.slice A6 t.args_.length c6))
      have HO6 := Lib.hid hO6
      have HB6 := Lib.hid hb6
      have HN6 := Lib.hid hn6
      have HBW6 := Lib.hid hbw6
      have hbase : w.heap.size ≤ w6.heap.size + 1 := by have := hbw6.size; omega
      clear hm hown6 hO6 hb6 hn6 hbw6 p0 p1 p2
      go_wp2_with (at_builtin; refine wpList_append_any rfl (.tmp 37) (.tmp 42) 29 rfl w.heap.size 37 i0 (.agg #[.string ByteArray.empty, .int .i64 0, .string ByteArray.empty, .slice none 0 0]) 4 64 Try.underlying29 hi hz0 hz1 hz2 rfl (by decide) (.slice Av acc.length cv) acc.length vs rfl HO2.out (some ⟨w6.heap.size, 0, none⟩) 1 1 [.string v, .int .i64 t.kind_, .string t.name_, .slice A6 t.args_.length c6] rfl rfl (.inr ⟨_, rfl, HNW.out⟩) (one4 _ _ _ _ _ _) (by unfold maxLen; omega) (by omega) (by simpa using hbase) (w6.heap.size + 1) (by simp) ?_)
      intro V' w7 hown7 hgrow7 hat7
      have hpush := KeptAt.push (x := .mk v t) HO.out HE.out HND.out HB6.out HO6.out HN6.out HBW.out.size hown7 hgrow7 hat7
      obtain ⟨bs, hrow, hnd2⟩ := hpush.row
      have HR := Lib.hid hrow
      have HN := Lib.hid hnd2
      have HB7 := Lib.hid ((HBW6.out.alloc HBW6.out.size (.cells #[.string v, .int .i64 t.kind_, .string t.name_, .slice A6 t.args_.length c6] 37)).grown hgrow7 (by simpa using hbase) (fun j e => (HO2.out.lt j e).1))
      clear hpush hown7 hgrow7 hat7 hrow hnd2
      go_wp2
      go_ret
      rw [HBD.out]
      exact ⟨_, _, rfl, HR.out, HN.out, HB7.out⟩
end Go.Proofs.Ytpffmcofajlkgaa

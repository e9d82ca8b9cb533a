/- The program's reader as a plain machine; it answers what the reference model's answers. -/
import Derived.Test.YtbnfdjhcakimhaaZSpecP
namespace Go.Proofs.Ytbnfdjhcakimhaa
open Go.RowKit Go.Lib

/-- The lists that are not closed yet, the innermost apart and first; how many expressions were read. -/
structure St where
  ini : List (List SX)
  top : List SX
  z : Nat
def addS (x : SX) (S : St) : Option St := if S.z + 1 ≤ 900 then some ⟨S.ini, S.top ++ [x], S.z + 1⟩ else none
def wordS (a : List UInt8) (S : St) : Option St := if a = [] then some S else if okAtom ⟨a.toArray⟩ then addS (.mk ⟨a.toArray⟩ []) S else none
def markS (c : UInt8) (S : St) : Option St :=
  if isW c then some S
  else if c = 40 then (if 14 < S.ini.length + 1 then none else some ⟨S.top :: S.ini, [], S.z⟩)
  else if c = 41 then (match S.ini with | [] => none | t :: r => addS (.mk ByteArray.empty S.top) ⟨r, t, S.z⟩)
  else none
/-- Over the bytes, a word under way. -/
def runS : List UInt8 → List UInt8 → St → Option St
  | pend, [], S => wordS pend S
  | pend, c :: r, S => if okByte c then runS (pend ++ [c]) r S else (wordS pend S).bind fun S1 => (markS c S1).bind fun S2 => runS [] r S2
/-- Over the tokens. -/
def stepT : Tok → St → Option St
  | .word a, S => if okAtom ⟨a.toArray⟩ then addS (.mk ⟨a.toArray⟩ []) S else none
  | .lp, S => if 14 < S.ini.length + 1 then none else some ⟨S.top :: S.ini, [], S.z⟩
  | .rp, S => match S.ini with | [] => none | t :: r => addS (.mk ByteArray.empty S.top) ⟨r, t, S.z⟩
  | .bad, _ => none
def runT : List Tok → St → Option St
  | [], S => some S
  | t :: r, S => (stepT t S).bind fun S1 => runT r S1
theorem runT_append : ∀ (a b : List Tok) (S : St), runT (a ++ b) S = (runT a S).bind fun S1 => runT b S1
  | [], b, S => rfl
  | t :: r, b, S => by
    rw [List.cons_append, runT, runT]
    cases stepT t S with
    | none => rfl
    | some S1 => exact runT_append r b S1
theorem runT_fl (a : List UInt8) (S : St) : runT (fl a) S = wordS a S := by
  by_cases h : a = []
  · subst h; rfl
  · rw [fl_some h, runT, wordS, if_neg h, stepT]
    cases (if okAtom ⟨a.toArray⟩ = true then addS (.mk ⟨a.toArray⟩ []) S else none) <;> rfl
theorem runT_mk1 (c : UInt8) (S : St) : runT (mk1 c) S = markS c S := by
  rw [mk1, markS]
  split
  · rfl
  · split
    · rw [runT, stepT]
      cases (if 14 < S.ini.length + 1 then none else some (⟨S.top :: S.ini, [], S.z⟩ : St)) <;> rfl
    · split
      · rw [runT, stepT]
        cases (match S.ini with | [] => none | t :: r => addS (.mk ByteArray.empty S.top) ⟨r, t, S.z⟩) <;> rfl
      · rw [runT, stepT]; rfl
theorem run_eq : ∀ (l pend : List UInt8) (S : St), runS pend l S = runT (tk pend l) S
  | [], pend, S => by rw [runS, tk, runT_fl]
  | c :: r, pend, S => by
    cases h : okByte c with
    | true => rw [runS, if_pos h, tk_ok h, run_eq r]
    | false =>
      rw [runS, if_neg (by rw [h]; decide), tk_no h, runT_append, runT_fl]
      cases wordS pend S with
      | none => rfl
      | some S1 =>
        simp only [Option.bind_some]
        rw [runT_append, runT_mk1]
        cases markS c S1 with
        | none => rfl
        | some S2 => simp only [Option.bind_some]; exact run_eq r [] S2

mutual
theorem runT_x : ∀ (x : SX) (ini : List (List SX)) (top : List SX) (z : Nat), x.form = true → ini.length + x.depth ≤ 14 → z + x.nodes ≤ 900 → runT (xt x) ⟨ini, top, z⟩ = some ⟨ini, top ++ [x], z + x.nodes⟩
  | .mk a l, ini, top, z, hf, hd, hz => by
    have hnod := SX.nodes_eq (.mk a l)
    simp only [SX.list] at hnod
    rw [SX.form] at hf
    rw [SX.depth] at hd
    by_cases ha : a.size = 0
    · rw [if_pos ha] at hf hd
      obtain rfl := empty_of ha
      rw [xt_list ha, runT, stepT, if_neg (by simp only; omega)]
      simp only [Option.bind_some]
      rw [runT_append, runT_l l _ _ _ hf (by simp; omega) (by omega)]
      simp only [Option.bind_some, List.nil_append]
      rw [runT, stepT]
      simp only
      rw [addS, if_pos (by simp only; omega)]
      simp only [Option.bind_some]
      rw [runT, hnod]
      simp
      omega
    · rw [if_neg ha, Bool.and_eq_true, decide_eq_true_eq] at hf
      obtain rfl := List.eq_nil_of_length_eq_zero hf.2
      rw [xt_word ha, runT, stepT, if_pos hf.1, addS, if_pos (by rw [hnod, SX.nodesL] at hz; simp only; omega)]
      simp only [Option.bind_some]
      rw [runT, hnod, SX.nodesL]
theorem runT_l : ∀ (l : List SX) (ini : List (List SX)) (top : List SX) (z : Nat), SX.formL l = true → ini.length + SX.depthL l ≤ 14 → z + SX.nodesL l ≤ 900 → runT (xtL l) ⟨ini, top, z⟩ = some ⟨ini, top ++ l, z + SX.nodesL l⟩
  | [], ini, top, z, _, _, _ => by rw [xtL, runT, SX.nodesL]; simp
  | x :: r, ini, top, z, hf, hd, hz => by
    rw [SX.formL, Bool.and_eq_true] at hf
    rw [SX.depthL] at hd
    rw [SX.nodesL] at hz
    rw [xtL, runT_append, runT_x x ini top z hf.1 (by omega) (by omega)]
    simp only [Option.bind_some]
    rw [runT_l r ini _ _ hf.2 (by omega) (by omega), SX.nodesL]
    simp
    omega
end

/-- The tokens that a state has read. -/
def spT : List (List SX) → List Tok
  | [] => []
  | t :: r => spT r ++ xtL t ++ [.lp]
/-- What holds of a state: the nodes counted; in form; within the depth. -/
def okI : List (List SX) → Prop
  | [] => True
  | t :: r => SX.formL t = true ∧ r.length + SX.depthL t ≤ 14 ∧ okI r
def nI : List (List SX) → Nat
  | [] => 0
  | t :: r => SX.nodesL t + nI r
structure Ok (S : St) : Prop where
  form : SX.formL S.top = true
  depth : S.ini.length + SX.depthL S.top ≤ 14
  ini : okI S.ini
  nodes : S.z = SX.nodesL S.top + nI S.ini
  most : S.z ≤ 900
theorem formL_snoc : ∀ (l : List SX) (x : SX), SX.formL (l ++ [x]) = (SX.formL l && x.form)
  | [], x => by simp [SX.formL]
  | y :: r, x => by rw [List.cons_append, SX.formL, SX.formL, formL_snoc r x, Bool.and_assoc]
theorem depthL_snoc : ∀ (l : List SX) (x : SX), SX.depthL (l ++ [x]) = max (SX.depthL l) x.depth
  | [], x => by simp [SX.depthL]
  | y :: r, x => by rw [List.cons_append, SX.depthL, SX.depthL, depthL_snoc r x]; omega
theorem nodesL_snoc : ∀ (l : List SX) (x : SX), SX.nodesL (l ++ [x]) = SX.nodesL l + x.nodes
  | [], x => by simp [SX.nodesL]
  | y :: r, x => by rw [List.cons_append, SX.nodesL, SX.nodesL, nodesL_snoc r x]; omega
theorem add_ok {x : SX} {ini : List (List SX)} {top : List SX} {z : Nat} {S' : St} (h : addS x ⟨ini, top, z⟩ = some S') (h1 : SX.formL top = true) (h2 : ini.length + SX.depthL top ≤ 14) (h3 : okI ini) (h4 : z + 1 = SX.nodesL top + x.nodes + nI ini) (hx : x.form = true) (hd : ini.length + x.depth ≤ 14) :
    Ok S' ∧ S'.ini = ini ∧ S'.top = top ++ [x] := by
  rw [addS] at h
  split at h
  · rename_i hz
    injection h with h
    subst h
    refine ⟨⟨by simp only; rw [formL_snoc, h1, hx]; rfl, by simp only; rw [depthL_snoc]; omega, h3, by simp only; rw [nodesL_snoc]; omega, hz⟩, rfl, rfl⟩
  · cases h
theorem step_sound {t : Tok} {S S' : St} (h : stepT t S = some S') (hk : Ok S) : Ok S' ∧ spT S.ini ++ xtL S.top ++ [t] = spT S'.ini ++ xtL S'.top := by
  obtain ⟨ini, top, z⟩ := S
  obtain ⟨k1, k2, k3, k4, k5⟩ := hk
  simp only at k1 k2 k3 k4 k5
  cases t with
  | bad => rw [stepT] at h; cases h
  | word a =>
    rw [stepT] at h
    split at h
    · rename_i ha
      have hsz : ¬ (⟨a.toArray⟩ : ByteArray).size = 0 := by
        rw [okAtom, Bool.and_eq_true, decide_eq_true_eq] at ha; omega
      obtain ⟨h1, h2, h3⟩ := add_ok h k1 k2 k3 (by rw [SX.nodes, SX.nodesL]; omega) (by rw [SX.form, if_neg hsz, ha]; rfl) (by rw [SX.depth, if_neg hsz]; omega)
      refine ⟨h1, ?_⟩
      rw [h2, h3, xtL_snoc, xt_word hsz]
      simp
    · cases h
  | lp =>
    rw [stepT] at h
    split at h
    · cases h
    · rename_i hd
      injection h with h
      subst h
      refine ⟨⟨rfl, by simp [SX.depthL]; simp only at hd; omega, ⟨k1, k2, k3⟩, by simp [SX.nodesL, nI]; omega, k5⟩, ?_⟩
      simp only [spT, xtL]
      simp
  | rp =>
    rw [stepT] at h
    simp only at h
    match ini, h, k2, k3, k4 with
    | [], h, _, _, _ => cases h
    | t :: r, h, k2, k3, k4 =>
      obtain ⟨o1, o2, o3⟩ := k3
      rw [List.length_cons] at k2
      rw [nI] at k4
      obtain ⟨h1, h2, h3⟩ := add_ok h o1 o2 o3 (by rw [SX.nodes]; omega) (by rw [SX.form, if_pos (by rfl)]; exact k1) (by rw [SX.depth, if_pos (by rfl)]; omega)
      refine ⟨h1, ?_⟩
      rw [h2, h3, xtL_snoc, xt_list (by rfl)]
      simp only [spT]
      simp
theorem run_sound : ∀ (ts : List Tok) {S S' : St}, runT ts S = some S' → Ok S → Ok S' ∧ spT S.ini ++ xtL S.top ++ ts = spT S'.ini ++ xtL S'.top
  | [], S, S', h, hk => by
    rw [runT] at h
    injection h with h
    subst h
    exact ⟨hk, by simp⟩
  | t :: r, S, S', h, hk => by
    rw [runT] at h
    obtain ⟨S1, h1, h2⟩ := Option.bind_eq_some_iff.1 h
    obtain ⟨k1, e1⟩ := step_sound h1 hk
    obtain ⟨k2, e2⟩ := run_sound r h2 k1
    refine ⟨k2, ?_⟩
    rw [← e2, ← e1]
    simp

def st0 : St := ⟨[], [], 0⟩
theorem st0_ok : Ok st0 := ⟨rfl, by simp [st0, SX.depthL], trivial, by simp [st0, SX.nodesL, nI], by simp [st0]⟩
/-- What the program's reader answers. -/
def endS : Option St → Option SX
  | some ⟨[], [x], _⟩ => some x
  | _ => none
def implP (l : List UInt8) : Option SX := endS (runS [] l st0)
theorem implP_iff (l : List UInt8) (x : SX) : implP l = some x ↔ tok l = xt x ∧ x.valid = true := by
  rw [implP, run_eq]
  change endS (runT (tok l) st0) = some x ↔ _
  constructor
  · intro h
    cases hr : runT (tok l) st0 with
    | none => rw [hr] at h; cases h
    | some S =>
      rw [hr] at h
      obtain ⟨ini, top, z⟩ := S
      obtain ⟨hk, he⟩ := run_sound _ hr st0_ok
      match ini, top, h, hk, he with
      | [], [y], h, hk, he =>
        injection h with h
        subst h
        obtain ⟨k1, k2, k3, k4, k5⟩ := hk
        simp only [SX.formL, SX.depthL, SX.nodesL, nI, Bool.and_true] at k1 k2 k4 k5
        refine ⟨?_, SX.valid_iff.2 ⟨by omega, k1, by simp at k2; omega⟩⟩
        simpa [st0, spT, xtL] using he
      | [], [], h, _, _ => cases h
      | [], _ :: _ :: _, h, _, _ => cases h
      | _ :: _, _, h, _, _ => cases h
  · rintro ⟨h1, h2⟩
    obtain ⟨v1, v2, v3⟩ := SX.valid_iff.1 h2
    rw [h1, st0, runT_x x [] [] 0 v2 (by simpa using v3) (by omega)]
    rfl
theorem impl_spec (l : List UInt8) : implP l = specP l := by
  apply Option.ext
  intro x
  rw [implP_iff, specP_iff]
end Go.Proofs.Ytbnfdjhcakimhaa

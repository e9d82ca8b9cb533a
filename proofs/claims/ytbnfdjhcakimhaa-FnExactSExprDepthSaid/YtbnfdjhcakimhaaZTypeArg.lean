/- A Type that came in reads as plain data. -/
import Derived.Test.YtbnfdjhcakimhaaZFits
import Derived.Test.YtbnfdjhcakimhaaZTypeD
import Derived.Test.YtbnfdjhcakimhaaProg
namespace Go.Proofs.Ytbnfdjhcakimhaa
open Go.ChangeShapes Go.WideShapes Go.ChangeAt Go.RowKit Go.Deep

/-- Only one of a type's five shapes is its own. -/
theorem fits_int {φ : TypeId → TypeId} {P : Program} {n : Nat} {t : TypeId} {ds : List DV} (hu : P.underlying t = some (.int .i64)) (h : Fits P φ n t ds) : ∃ z, ds = [.pl (.int .i64 z)] := by
  cases n with
  | zero => rw [Fits] at h; exact h.elim
  | succ n =>
    rw [Fits, hu] at h
    rcases h with ⟨_, h⟩ | ⟨h, _⟩ | ⟨h, _⟩ | ⟨_, h, _⟩ | ⟨_, h, _⟩
    · exact h
    all_goals cases h
theorem fits_string {φ : TypeId → TypeId} {P : Program} {n : Nat} {t : TypeId} {ds : List DV} (hu : P.underlying t = some .string) (h : Fits P φ n t ds) : ∃ s, ds = [.pl (.string s)] := by
  cases n with
  | zero => rw [Fits] at h; exact h.elim
  | succ n =>
    rw [Fits, hu] at h
    rcases h with ⟨h, _⟩ | ⟨_, h⟩ | ⟨h, _⟩ | ⟨_, h, _⟩ | ⟨_, h, _⟩
    · cases h
    · exact h
    all_goals cases h
theorem fits_bool {φ : TypeId → TypeId} {P : Program} {n : Nat} {t : TypeId} {ds : List DV} (hu : P.underlying t = some .bool) (h : Fits P φ n t ds) : ∃ b, ds = [.pl (.bool b)] := by
  cases n with
  | zero => rw [Fits] at h; exact h.elim
  | succ n =>
    rw [Fits, hu] at h
    rcases h with ⟨h, _⟩ | ⟨h, _⟩ | ⟨_, h⟩ | ⟨_, h, _⟩ | ⟨_, h, _⟩
    · cases h
    · cases h
    · exact h
    all_goals cases h
theorem fits_slice {φ : TypeId → TypeId} {P : Program} {n : Nat} {t e : TypeId} {ds : List DV} (hu : P.underlying t = some (.slice e)) (h : Fits P φ n t ds) : ∃ (m : Nat) (xs : List (List DV)), n = m + 1 ∧ ds = [.row (φ e) (P.cellsOf e) xs] ∧ ∀ x ∈ xs, Fits P φ m e x := by
  cases n with
  | zero => rw [Fits] at h; exact h.elim
  | succ n =>
    rw [Fits, hu] at h
    rcases h with ⟨h, _⟩ | ⟨h, _⟩ | ⟨h, _⟩ | ⟨e', h, xs, h1, h2⟩ | ⟨_, h, _⟩
    · cases h
    · cases h
    · cases h
    · injection h with h; injection h with h; subst h; exact ⟨n, xs, rfl, h1, h2⟩
    · cases h
theorem fits_struct {φ : TypeId → TypeId} {P : Program} {n : Nat} {t : TypeId} {fs : Array Field} {ds : List DV} (hu : P.underlying t = some (.struct fs)) (h : Fits P φ n t ds) : ∃ (m : Nat) (parts : List (List DV)), n = m + 1 ∧ ds = parts.flatten ∧ parts.length = fs.size ∧ ∀ (i : Nat) (f : Field) (p : List DV), fs[i]? = some f → parts[i]? = some p → Fits P φ m f.type p := by
  cases n with
  | zero => rw [Fits] at h; exact h.elim
  | succ n =>
    rw [Fits, hu] at h
    rcases h with ⟨h, _⟩ | ⟨h, _⟩ | ⟨h, _⟩ | ⟨_, h, _⟩ | ⟨fs', h, parts, h1, h2, h3⟩
    · cases h
    · cases h
    · cases h
    · cases h
    · injection h with h; injection h with h; subst h; exact ⟨n, parts, rfl, h1, h2, h3⟩
/-- Each of these is one of those: all of them are. -/
theorem list_of {α β : Type} (f : α → β) : ∀ (l : List β), (∀ x ∈ l, ∃ a, x = f a) → ∃ l' : List α, l = l'.map f
  | [], _ => ⟨[], rfl⟩
  | x :: r, h => by
    obtain ⟨a, rfl⟩ := h x (by simp)
    obtain ⟨l', rfl⟩ := list_of f r fun y hy => h y (List.mem_cons_of_mem _ hy)
    exact ⟨a :: l', rfl⟩

end Go.Proofs.Ytbnfdjhcakimhaa

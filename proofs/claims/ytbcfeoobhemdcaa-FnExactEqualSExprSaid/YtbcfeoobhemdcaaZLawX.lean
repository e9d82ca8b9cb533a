/- What the laws over S-expressions share. -/
import Derived.Test.YtbcfeoobhemdcaaZSpecFormat
import Derived.Test.YtbcfeoobhemdcaaZTo
import Derived.Test.YtbcfeoobhemdcaaZEqX
import Derived.Deep.RegionWith
namespace Go.Proofs.Ytbcfeoobhemdcaa
open Go.RowKit Go.Lib

mutual
theorem SX.nodes_wt : ∀ (x : SX), x.nodes ≤ x.wt + 1
  | .mk a l => by have := SX.nodesL_wt l; rw [SX.nodes, SX.wt]; omega
theorem SX.nodesL_wt : ∀ (l : List SX), SX.nodesL l ≤ SX.wtL l
  | [] => by rw [SX.nodesL]; omega
  | x :: r => by have := SX.nodes_wt x; have := SX.nodesL_wt r; rw [SX.nodesL, SX.wtL]; omega
end
theorem ListAt.same {w w' : World} {A : Option Addr} {l : List SX} (h : ListAt w (Lt w.heap.size) A l) (hh : w'.heap = w.heap) : ListAt w' (Lt w'.heap.size) A l :=
  h.frame (fun b h => by rw [hh]; exact h) fun b o _ => by simp [World.cell?, hh]
theorem ListAt.drew_ {w : World} {A : Option Addr} {l : List SX} (h : ListAt w (Lt w.heap.size) A l) : ListAt w.drew (Lt w.drew.heap.size) A l := h.same rfl
/-- A new expression reads as one. -/
theorem made_lt {w w' : World} {A : Option Addr} {l : List SX} (h : ListAt w' (In w.heap.size w'.heap.size) A l) : ListAt w' (Lt w'.heap.size) A l := h.frame (fun _ h => h.2) fun _ _ _ => rfl
end Go.Proofs.Ytbcfeoobhemdcaa

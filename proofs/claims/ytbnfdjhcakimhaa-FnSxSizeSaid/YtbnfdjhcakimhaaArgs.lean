/- A slice of bytes that came in, in the walks' own words. -/
import Derived.Test.YtbnfdjhcakimhaaDraw
import Derived.ProofKit
import Derived.OpenShut
import Derived.ChangeOld
namespace Go.Proofs.Ytbnfdjhcakimhaa
open Go.ChangeShapes Go.WideShapes Go.ChangeAt Go.RowKit

theorem bytes_of {w : World} {a : Addr} {len cap : Nat} {zs : List Int} (hl : len ≤ cap) (hz : zs.length = cap) (hc : ∀ i, i < zs.length → w.cell? (a.add i) = some (.int .u8 (zs.getD i 0))) (hw : ∀ z ∈ zs, (Lit.int .u8 z).wf = true) : BytesAt w w.heap.size (some a) len := by
  intro j hj
  have hjz : j < zs.length := by omega
  obtain ⟨b, off, spot⟩ := a
  have hspot : spot = none := by simpa [Addr.add] using World.cell?_spot (hc 0 (by omega))
  subst hspot
  have h := hc j hjz
  rw [Go.WideShapes.add_plain] at h
  have hmem : zs.getD j 0 ∈ zs := by
    rw [List.getD_eq_getElem?_getD, List.getElem?_eq_getElem hjz]
    exact List.getElem_mem hjz
  have hwf := hw _ hmem
  have hx : 0 ≤ zs.getD j 0 ∧ zs.getD j 0 ≤ 255 := by simpa [Lit.wf, IntKind.min, IntKind.max, IntKind.signed, IntKind.bits] using hwf
  exact ⟨b, off, _, rfl, World.block_lt_of_cell? w _ h, hx.1, hx.2, h⟩
end Go.Proofs.Ytbnfdjhcakimhaa

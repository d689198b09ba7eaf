/- The frame of WordPacks: a nil slice has no room. -/
import Derived.Test.YtafdaeenjjokiaaDoorFrameb
namespace Go.Proofs.YtafdaeenjjokiaaDoor
open Go.ChangeShapes Go.WideShapes Go.ChangeAt Go.RowKit
theorem slice_nil {H : Type} {enc : TypeId × Value → H} {t e : TypeId} {k : IntKind} {W : World} {a : Option Addr} {len cap : Nat} {d : DataW H} {p : List MemPlace} (ht : Tryd.prog.underlying t = some (.slice e)) (he : Tryd.prog.underlying e = some (.int k)) (hc : Tryd.prog.cellsOf e = 1)
    (h : DataW.Trod enc Tryd.prog W 0 (fun _ => true) true t (.slice a len cap) d p) : a = none → cap = 0 := by
  obtain ⟨fuel, hf⟩ := h
  rcases open_ints ht he hc hf with ⟨hcs, _⟩ | ⟨x, l, c, zs, hcs, _⟩
  · simp [Value.cells] at hcs
    exact fun _ => hcs.2.2
  · simp [Value.cells] at hcs
    obtain ⟨rfl, _⟩ := hcs
    intro hh; cases hh
end Go.Proofs.YtafdaeenjjokiaaDoor

/- The frame of each statement of layer 6: what the row's listed variables give; a world in which they lie so. -/
import Derived.Test.YthmccldkknhejaaDoorQg
import Derived.Test.YthmccldkknhejaaDoorTie
import Derived.Test.YthmccldkknhejaaDoorCards
import Derived.ProofKit
import Derived.OpenShut
import Derived.LaidMore
import Derived.Stop.Joined
import Derived.Stop.LaidErr
import Derived.Lib.LaidTab
import Derived.Lay
import Derived.ChangeMaps5
import Derived.SevenTiedAt
namespace Go.Proofs.YthmccldkknhejaaDoor
open Go.ChangeShapes Go.WideShapes Go.ChangeAt Go.RowKit

theorem own : ownKnob Tryd.prog.godebug = none := by kernel_rfl
/-- What the rows list. -/
abbrev laidL : List (String × DataW Unit) := Rows.setAnswersRow.laid
def nameAt (k : Nat) : String := ((laidL.map Prod.fst)[k]?).getD Rows.setAnswersRow.func
def dataAt (k : Nat) : DataW Unit := ((laidL.map Prod.snd)[k]?).getD .nil
theorem laid_split : laidL = (nameAt 0, dataAt 0) :: (nameAt 1, dataAt 1) :: (nameAt 2, dataAt 2) :: (nameAt 3, dataAt 3) :: (nameAt 4, dataAt 4) :: (nameAt 5, dataAt 5) :: laidL.drop 6 := by kernel_rfl
theorem g64 : Tryd.prog.globalNamed (nameAt 1) = some 0 := by kernel_rfl
theorem gRan : Tryd.prog.globalNamed (nameAt 4) = some 5 := by kernel_rfl
theorem gSyn : Tryd.prog.globalNamed (nameAt 5) = some 4 := by kernel_rfl
theorem t64 : (Tryd.prog.globals[0]?).map (·.type) = some 88 := by kernel_rfl
theorem tRan : (Tryd.prog.globals[5]?).map (·.type) = some 81 := by kernel_rfl
theorem tSyn : (Tryd.prog.globals[4]?).map (·.type) = some 81 := by kernel_rfl
def tabInts : List Int := Lib.deBruijn64tab.map fun (n : Nat) => (n : Int)
theorem tab_data : dataAt 1 = Lib.tabData .u8 tabInts := by kernel_rfl
/-- An interface value is what reads as one. -/
theorem iface_of_trod {P : Program} {w : World} {base fuel : Nat} {sp : Nat → Bool} {held : Bool} {t : TypeId} {ms : Array (String × TypeId)} {cs : List Value} {nm : String} {d : DataW Unit} {p : List MemPlace} (hi : P.underlying t = some (.interface ms))
    (h : DataW.trod (fun _ => ()) P w base sp held fuel t cs = some (.iface nm d, p)) : ∃ u v, cs = [.iface u v] := by
  cases fuel with
  | zero => simp [DataW.trod] at h
  | succ fuel =>
    unfold DataW.trod at h
    rw [hi] at h
    split at h <;> first | exact ⟨_, _, rfl⟩ | (exfalso; simp_all; done)
theorem tab_of_tail {W : World} (h : laidMet Tryd.prog ((nameAt 1, dataAt 1) :: (nameAt 2, dataAt 2) :: (nameAt 3, dataAt 3) :: (nameAt 4, dataAt 4) :: (nameAt 5, dataAt 5) :: laidL.drop 6) W) : Tab W := by
  rw [tab_data] at h
  have ht := Lib.tabIs_of_head g64 t64 (n := 64) (e := 5) Tryd.underlying88 Tryd.underlying5 (by kernel_rfl) (by kernel_rfl) h
  intro j hj
  have hl : tabInts.length = 64 := by decide
  have hc := ht.cell g64 j (by omega)
  rw [hc]
  unfold tabInts
  have hl2 : j < Lib.deBruijn64tab.length := by
    have : Lib.deBruijn64tab.length = 64 := by decide
    omega
  simp [List.getD, hl2]
theorem err_of_head {W : World} {n : String} {d : DataW Unit} {r : List (String × DataW Unit)} {g : Nat} {ms : Array (String × TypeId)} {nm : String} {x : DataW Unit} (hg : Tryd.prog.globalNamed n = some g) (ht : (Tryd.prog.globals[g]?).map (·.type) = some 81)
    (hi : Tryd.prog.underlying 81 = some (.interface ms)) (hd : d = .iface nm x) (h : laidMet Tryd.prog ((n, d) :: r) W) : ∃ te pe, W.cell? ⟨g, 0, none⟩ = some (.iface te pe) := by
  subst hd
  obtain ⟨ps, ⟨g', t', cs, fuel, p, q, hg', ht', hvar, hd, _, _⟩, _⟩ := h
  obtain rfl := Option.some.inj (hg.symm.trans hg')
  obtain rfl := Option.some.inj (ht.symm.trans ht')
  obtain ⟨u, v, e⟩ := iface_of_trod hi hd
  refine ⟨u, v, ?_⟩
  have := World.var?_cell hg hvar 0
  rw [this, ← Array.getElem?_toList, e]
  rfl
def ifaceB : DataW Unit → Bool
  | .iface _ _ => true
  | _ => false
theorem is_iface {d : DataW Unit} (h : ifaceB d = true) : ∃ nm x, d = .iface nm x := by
  cases d <;> first | exact ⟨_, _, rfl⟩ | cases h
theorem gnd_of_laid {W : World} (h : laidMetH Tryd.prog laidL W) : Gnd W := by
  rw [MakeChecks.laidMetH_plain _ _ _ (by kernel_rfl), laid_split] at h
  have h1 := h.tail
  have h4 := h1.tail.tail.tail
  obtain ⟨_, _, e5⟩ := is_iface (show ifaceB (dataAt 5) = true by kernel_rfl)
  obtain ⟨_, _, e4⟩ := is_iface (show ifaceB (dataAt 4) = true by kernel_rfl)
  exact ⟨tab_of_tail h1, err_of_head gSyn tSyn Tryd.underlying81 e5 h4.tail, err_of_head gRan tRan Tryd.underlying81 e4 h4⟩
theorem door_met (os : Os) (args : Array Value) : laidMetH Tryd.prog laidL ((World.laidAll Tryd.prog os laidL).forCall (fun _ _ => 0) ⟨#[], args, []⟩).memory := by
  rw [MakeChecks.laidMetH_plain _ _ _ (by kernel_rfl)]; exact laidMet_laidAll _ (by kernel_rfl) (by kernel_rfl)
end Go.Proofs.YthmccldkknhejaaDoor

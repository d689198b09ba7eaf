/- The frame of each statement of layer 7: what the row's listed variables give; a world in which they lie so; a label that comes in; the bound of the library's search holds a number. -/
import Derived.Test.YtcodphddkkjocaaGreatDoorUd
import Derived.Test.YtcodphddkkjocaaGreatDoorTie
import Derived.Test.YtcodphddkkjocaaGreatDoorCards
import Derived.ProofKit
import Derived.OpenShut
import Derived.LaidMore
import Derived.Stop.Joined
import Derived.Stop.LaidErr
import Derived.Lib.LaidTab
import Derived.Lay
import Derived.ChangeMaps5
import Derived.SevenTiedAt
import Derived.HandedShaped
import Derived.Shelf.Vars
import Derived.Deep.Slices
import Derived.Deep.Fields
namespace Go.Proofs.YtcodphddkkjocaaGreatDoor
open Go.ChangeShapes Go.WideShapes Go.ChangeAt Go.RowKit Go.Deep
set_option linter.unusedVariables false

theorem own : ownKnob Tryz.prog.godebug = none := by kernel_rfl
/-- What the rows list. -/
abbrev laidL : List (String × DataW Unit) := Rows.labelAnswersRow.laid
def nameAt (k : Nat) : String := ((laidL.map Prod.fst)[k]?).getD Rows.labelAnswersRow.func
def dataAt (k : Nat) : DataW Unit := ((laidL.map Prod.snd)[k]?).getD .nil
theorem laid_split : laidL = (nameAt 0, dataAt 0) :: (nameAt 1, dataAt 1) :: (nameAt 2, dataAt 2) :: (nameAt 3, dataAt 3) :: (nameAt 4, dataAt 4) :: (nameAt 5, dataAt 5) :: laidL.drop 6 := by kernel_rfl
theorem g64 : Tryz.prog.globalNamed (nameAt 1) = some 1 := by kernel_rfl
theorem gRan : Tryz.prog.globalNamed (nameAt 4) = some 5 := by kernel_rfl
theorem gSyn : Tryz.prog.globalNamed (nameAt 5) = some 4 := by kernel_rfl
theorem t64 : (Tryz.prog.globals[1]?).map (·.type) = some 95 := by kernel_rfl
theorem tRan : (Tryz.prog.globals[5]?).map (·.type) = some 86 := by kernel_rfl
theorem tSyn : (Tryz.prog.globals[4]?).map (·.type) = some 86 := by kernel_rfl
def tabInts : List Int := Lib.deBruijn64tab.map fun (n : Nat) => (n : Int)
theorem tab_data : dataAt 1 = Lib.tabData .u8 tabInts := by kernel_rfl
/-- An interface value is what reads as one. -/
theorem iface_of_trod {P : Program} {w : World} {base fuel : Nat} {sp : Nat → Bool} {held : Bool} {t : TypeId} {ms : Array (String × TypeId)} {cs : List Value} {nm : String} {d : DataW Unit} {p : List MemPlace} (hi : P.underlying t = some (.interface ms))
    (h : DataW.trod (fun _ => ()) P w base sp held fuel t cs = some (.iface nm d, p)) : ∃ u v, cs = [.iface u v] := by
  cases fuel with
  | zero => simp [DataW.trod] at h
  | succ fuel =>
    unfold DataW.trod at h
    rw [hi] at h
    split at h <;> first | exact ⟨_, _, rfl⟩ | (exfalso; simp_all; done)
theorem tab_of_tail {W : World} (h : laidMet Tryz.prog ((nameAt 1, dataAt 1) :: (nameAt 2, dataAt 2) :: (nameAt 3, dataAt 3) :: (nameAt 4, dataAt 4) :: (nameAt 5, dataAt 5) :: laidL.drop 6) W) : Tab W := by
  rw [tab_data] at h
  have ht := Lib.tabIs_of_head g64 t64 (n := 64) (e := 5) Tryz.underlying95 Tryz.underlying5 (by kernel_rfl) (by kernel_rfl) h
  intro j hj
  have hl : tabInts.length = 64 := by decide
  have hc := ht.cell g64 j (by omega)
  rw [hc]
  unfold tabInts
  have hl2 : j < Lib.deBruijn64tab.length := by
    have : Lib.deBruijn64tab.length = 64 := by decide
    omega
  simp [List.getD, hl2]
theorem err_of_head {W : World} {n : String} {d : DataW Unit} {r : List (String × DataW Unit)} {g : Nat} {ms : Array (String × TypeId)} {nm : String} {x : DataW Unit} (hg : Tryz.prog.globalNamed n = some g) (ht : (Tryz.prog.globals[g]?).map (·.type) = some 86)
    (hi : Tryz.prog.underlying 86 = some (.interface ms)) (hd : d = .iface nm x) (h : laidMet Tryz.prog ((n, d) :: r) W) : ∃ te pe, W.cell? ⟨g, 0, none⟩ = some (.iface te pe) := by
  subst hd
  obtain ⟨ps, ⟨g', t', cs, fuel, p, q, hg', ht', hvar, hd, _, _⟩, _⟩ := h
  obtain rfl := Option.some.inj (hg.symm.trans hg')
  obtain rfl := Option.some.inj (ht.symm.trans ht')
  obtain ⟨u, v, e⟩ := iface_of_trod hi hd
  refine ⟨u, v, ?_⟩
  have := World.var?_cell hg hvar 0
  rw [this, ← Array.getElem?_toList, e]
  rfl
def ifaceB : DataW Unit → Bool
  | .iface _ _ => true
  | _ => false
theorem is_iface {d : DataW Unit} (h : ifaceB d = true) : ∃ nm x, d = .iface nm x := by
  cases d <;> first | exact ⟨_, _, rfl⟩ | cases h
theorem gnd_of_laid {W : World} (h : laidMetH Tryz.prog laidL W) : Gnd W := by
  rw [MakeChecks.laidMetH_plain _ _ _ (by kernel_rfl), laid_split] at h
  have h1 := h.tail
  have h4 := h1.tail.tail.tail
  obtain ⟨_, _, e5⟩ := is_iface (show ifaceB (dataAt 5) = true by kernel_rfl)
  obtain ⟨_, _, e4⟩ := is_iface (show ifaceB (dataAt 4) = true by kernel_rfl)
  exact ⟨tab_of_tail h1, err_of_head gSyn tSyn Tryz.underlying86 e5 h4.tail, err_of_head gRan tRan Tryz.underlying86 e4 h4⟩
theorem door_met (os : Os) (args : Array Value) : laidMetH Tryz.prog laidL ((World.laidAll Tryz.prog os laidL).forCall (fun _ _ => 0) ⟨#[], args, []⟩).memory := by
  rw [MakeChecks.laidMetH_plain _ _ _ (by kernel_rfl)]; exact laidMet_laidAll _ (by kernel_rfl) (by kernel_rfl)
set_option maxRecDepth 100000 in
theorem laidOut : laidOutB Tryz.prog = true := by kernel_rfl
set_option maxRecDepth 100000 in
theorem max_of_shaped {W : World} (h : W.ShapedOpen Tryz.prog) : ∃ m, W.cell? ⟨0, 0, none⟩ = some (.int .i64 m) :=
  cell_of_shapedOpen_int (zero := #[.int .i64 0]) (t := 3) h (of_decide_eq_true (by kernel_rfl)) (by kernel_rfl) rfl (by kernel_rfl) (by kernel_rfl) Tryz.underlying3
theorem gnd7_of {W : World} (h : laidMetH Tryz.prog laidL W) (k : W.ShapedOpen Tryz.prog) : Gnd7 W := ⟨gnd_of_laid h, max_of_shaped k⟩
set_option maxRecDepth 100000 in
/-- What is asked of a statement's walk: at a world in which the listed variables lie and whose variables have their types. -/
theorem handed_of_walk {H : Type} {enc : TypeId × Value → H} {os : Os} {f : FuncId} {fn : Func} {s : ChangeSpec} (started : os.Started) (noInit : Tryz.prog.inits.idxOf? f = none) (hfn : Tryz.prog.funcs[f]? = some fn)
    (witness : ∃ (w : World) (tape : Tape) (i : Input), w.os = os ∧ (w.forCall tape i).Shaped Tryz.prog ∧ i.vars = [] ∧ Input.okWide Tryz.prog (w.forCall tape i) .any w.heap.size f i ∧
      ((s.pre enc Tryz.prog fn [] false (w.forCall tape i).memory i.args ∧ laidMetH Tryz.prog laidL (w.forCall tape i).memory) ∧ sizedMet enc Tryz.prog fn (OpenSpec.ofChange s) false (w.forCall tape i).memory i.args) ∧ Assume.holds {} Tryz.prog (lone (Frame.enter Tryz.prog f i.args .normal) [] (w.forCall tape i)))
    (walk : ∀ (W : World) (base : Nat) (args : Array Value) (ds gs : List (DataW H)) (before : List MemPlace),
      (∀ (j : Nat) t v, fn.params[j]? = some t → args[j]? = some v → Value.okWide Tryz.prog W .any base t v) →
      DataW.Whole enc Tryz.prog fn.params.toList s.vars false W args.toList ds gs before → Gnd7 W →
      Calls Tryz.prog f args W fun e W' => ∃ v, e = .returned v ∧ s.post enc Tryz.prog fn false true false false W args v W') :
    ReturnsInHanded {} Tryz.checked os f .any (fun w args => (s.pre enc Tryz.prog fn [] false w args ∧ laidMetH Tryz.prog laidL w) ∧ sizedMet enc Tryz.prog fn (OpenSpec.ofChange s) false w args) (s.post enc Tryz.prog fn false true false false) := by
  refine returnsInHanded_of_calls (C := Tryz.checked) own started noInit witness ?_
  intro w tape i _ hsh _ hok hpre _
  obtain ⟨_, _, _, fn', hfn', _, _, _, _, hval⟩ := hok
  obtain rfl : fn' = fn := Option.some.inj (hfn'.symm.trans hfn)
  obtain ⟨⟨⟨ds, gs, before, hw, _⟩, hl⟩, _⟩ := hpre
  have hl' : laidMetH Tryz.prog laidL (w.forCall tape i) := laidMetH.of_heap (by rfl) hl
  refine (walk (w.forCall tape i) w.heap.size i.args ds gs before hval (DataW.Whole.of_heap (w' := w.forCall tape i) (by rfl) hw) (gnd7_of hl' hsh)).mono fun e W' ⟨v, he, hp⟩ => ?_
  subst he
  exact ChangeSpec.post_blind hp
set_option maxRecDepth 100000 in
theorem one_lab {H : Type} {enc : TypeId × Value → H} {W : World} {v0 v1 : Value} {n : Nat} {x : DataW H × List MemPlace} (h : DataW.trod enc Tryz.prog W 0 (fun _ => true) true n 24 [v0, v1] = some x) : ∃ a b : Nat, v0 = .int .u64 a ∧ v1 = .int .u64 b ∧ a < 18446744073709551616 ∧ b < 18446744073709551616 := by
  obtain ⟨ys, n', _, _, _, hyl, hf⟩ := DataW.trod_struct Tryz.underlying24 h
  match ys, hyl with
  | [y0, y1], _ =>
    have f0 : DataW.trod enc Tryz.prog W 0 (fun _ => true) true n' 22 (([v0, v1].drop 0).take (Tryz.prog.cellsOf 22)) = some y0 := hf 0 _ rfl
    have f1 : DataW.trod enc Tryz.prog W 0 (fun _ => true) true n' 22 (([v0, v1].drop 1).take (Tryz.prog.cellsOf 22)) = some y1 := hf 1 _ rfl
    rw [show Tryz.prog.cellsOf 22 = 1 by kernel_rfl] at f0 f1
    obtain ⟨a0, e0, _, w0⟩ := DataW.trod_int Tryz.underlying22 (show DataW.trod enc Tryz.prog W 0 (fun _ => true) true n' 22 [v0] = some y0 from f0)
    obtain ⟨a1, e1, _, w1⟩ := DataW.trod_int Tryz.underlying22 (show DataW.trod enc Tryz.prog W 0 (fun _ => true) true n' 22 [v1] = some y1 from f1)
    simp only [List.cons.injEq, and_true] at e0 e1
    have k0 := bounds_u64 w0
    have k1 := bounds_u64 w1
    refine ⟨a0.toNat, a1.toNat, ?_, ?_, by omega, by omega⟩
    · rw [e0, show ((a0.toNat : Nat) : Int) = a0 by omega]
    · rw [e1, show ((a1.toNat : Nat) : Int) = a1 by omega]
set_option maxRecDepth 100000 in
/-- A label by value that comes in. -/
theorem lab_value {H : Type} {enc : TypeId × Value → H} {W : World} {r0 : Reach} {b0 : Nat} {v : Value} {d : DataW H} {p : List MemPlace} (hv : Value.okWide Tryz.prog W r0 b0 24 v) (h : DataW.Trod enc Tryz.prog W 0 (fun _ => true) true 24 v d p) : ∃ a : LabD, v = labV a ∧ a.ok := by
  obtain ⟨cs, rfl, hsz⟩ := okWide_struct Tryz.underlying24 hv
  rw [show Tryz.prog.cellsOf 24 = 2 by kernel_rfl] at hsz
  obtain ⟨fuel, hf⟩ := h
  obtain ⟨l⟩ := cs
  match l, hsz with
  | [v0, v1], _ =>
    obtain ⟨a, b, rfl, rfl, ha, hb⟩ := one_lab hf
    exact ⟨⟨a, b⟩, rfl, ha, hb⟩
end Go.Proofs.YtcodphddkkjocaaGreatDoor

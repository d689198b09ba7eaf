/- A row of calls of a table, as mathematics. -/
import Derived.Test.YtnfodidfhnofkaaBy
namespace Go.Proofs.Ytnfodidfhnofkaa

/-- A call: what 0 Ask, 1 Free, 2 Quit, any other none. -/
structure PCall where
  what : Int
  tx : Int
  key : KeyT
  ex : Bool
  now : Int
/-- What a call turns a table into. -/
def DoS (st : PS) (c : PCall) (st' : PS) : Prop :=
  (c.what = 0 ∧ st' = (askS st c.tx c.key c.ex c.now).1) ∨ (c.what = 1 ∧ FreeSays st st' c.tx) ∨ (c.what = 2 ∧ st' = (quitS st c.tx).1) ∨ (c.what ≠ 0 ∧ c.what ≠ 1 ∧ c.what ≠ 2 ∧ st' = st)
/-- What a row of calls turns a table into. -/
inductive RunS : PS → List PCall → PS → Prop
  | nil (st : PS) : RunS st [] st
  | cons {st st1 st2 : PS} {c : PCall} {cs : List PCall} : DoS st c st1 → RunS st1 cs st2 → RunS st (c :: cs) st2
theorem RunS.snoc {st st1 st2 : PS} {c : PCall} {cs : List PCall} (h : RunS st cs st1) (hd : DoS st1 c st2) : RunS st (cs ++ [c]) st2 := by
  induction h with
  | nil st => exact .cons hd (.nil _)
  | cons h1 _ ih => exact .cons h1 (ih hd)
theorem DoS.inv {st st' : PS} {c : PCall} (hI : Inv st) (h : DoS st c st') : Inv st' := by
  rcases h with ⟨_, rfl⟩ | ⟨_, h⟩ | ⟨_, rfl⟩ | ⟨_, _, _, rfl⟩
  · exact ask_inv hI _ _ _ _
  · exact h.inv
  · exact quit_inv hI _
  · exact hI
theorem RunS.inv {st st' : PS} {cs : List PCall} (hI : Inv st) (h : RunS st cs st') : Inv st' := by
  induction h with
  | nil st => exact hI
  | cons h1 _ ih => exact ih (h1.inv hI)
end Go.Proofs.Ytnfodidfhnofkaa

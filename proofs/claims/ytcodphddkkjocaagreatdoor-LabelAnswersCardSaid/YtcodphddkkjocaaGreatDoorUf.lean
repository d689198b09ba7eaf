/- Labels as plain mathematics: flowing is an order, the labels a lattice. Nothing of the program beyond what its calls answer. -/
import Derived.Test.YtcodphddkkjocaaGreatDoorUa
namespace Go.Proofs.YtcodphddkkjocaaGreatDoor
open Go.RowKit

abbrev okW64 (n : Nat) : Prop := n < 18446744073709551616
theorem and_lt {a b : Nat} (ha : okW64 a) : okW64 (a &&& b) := Nat.lt_of_le_of_lt Nat.and_le_left ha
theorem join_ok {a b : LabD} (ha : a.ok) (hb : b.ok) : (joinD a b).ok := ⟨or_lt ha.1 hb.1, and_lt ha.2⟩
theorem meet_ok {a b : LabD} (ha : a.ok) (hb : b.ok) : (meetD a b).ok := ⟨and_lt ha.1, or_lt ha.2 hb.2⟩
theorem raise_ok {a : LabD} {u v : Nat} (ha : a.ok) (hu : okW64 u) : (raiseD a u v).ok := ⟨or_lt ha.1 hu, minus_lt ha.2⟩
theorem bit_need {a b : LabD} (ha : a.ok) (hb : b.ok) (i : Nat) : (needN a b).testBit i = ((a.s.testBit i && !b.s.testBit i) || (b.t.testBit i && !a.t.testBit i)) := by
  unfold needN
  rw [Nat.testBit_or, bit_minus ha.1 hb.1, bit_minus hb.2 ha.2]
theorem within_iff {a b : Nat} (ha : okW64 a) (hb : okW64 b) : within a b = true ↔ ∀ i, a.testBit i = true → b.testBit i = true := by
  unfold within
  rw [decide_eq_true_iff]
  exact minus_zero ha hb
theorem with_iff {a b : LabD} {o : Nat} (ha : a.ok) (hb : b.ok) (ho : okW64 o) : withB a b o = true ↔ ∀ i, ((a.s.testBit i && !b.s.testBit i) || (b.t.testBit i && !a.t.testBit i)) = true → o.testBit i = true := by
  unfold withB
  rw [within_iff (need_lt ha hb) ho]
  exact forall_congr' fun i => by rw [bit_need ha hb]
theorem flows_iff {a b : LabD} (ha : a.ok) (hb : b.ok) : flowsB a b = true ↔ ∀ i, ((a.s.testBit i && !b.s.testBit i) || (b.t.testBit i && !a.t.testBit i)) = false := by
  unfold flowsB
  rw [with_iff ha hb (by decide)]
  exact forall_congr' fun i => by rw [Nat.zero_testBit]; simp
theorem lab_ext {a b : LabD} (ha : a.ok) (hb : b.ok) (h : ∀ i, a.s.testBit i = b.s.testBit i ∧ a.t.testBit i = b.t.testBit i) : a = b := by
  cases a; cases b
  congr 1
  · exact set_ext ha.1 hb.1 fun i _ => (h i).1
  · exact set_ext ha.2 hb.2 fun i _ => (h i).2
/-! ### An order -/
theorem flows_self {a : LabD} (ha : a.ok) : flowsB a a = true := (flows_iff ha ha).2 fun i => by simp
theorem flows_two {a b : LabD} (ha : a.ok) (hb : b.ok) (h : flowsB a b = true) (k : flowsB b a = true) : a = b := by
  rw [flows_iff ha hb] at h
  rw [flows_iff hb ha] at k
  refine lab_ext ha hb fun i => ?_
  have h := h i
  have k := k i
  revert h k
  generalize a.s.testBit i = p
  generalize b.s.testBit i = q
  generalize a.t.testBit i = r
  generalize b.t.testBit i = s
  revert p q r s
  decide
theorem flows_three {a b c : LabD} (ha : a.ok) (hb : b.ok) (hc : c.ok) (h : flowsB a b = true) (k : flowsB b c = true) : flowsB a c = true := by
  rw [flows_iff ha hb] at h
  rw [flows_iff hb hc] at k
  rw [flows_iff ha hc]
  intro i
  have h := h i
  have k := k i
  revert h k
  generalize a.s.testBit i = p
  generalize b.s.testBit i = q
  generalize c.s.testBit i = p'
  generalize a.t.testBit i = r
  generalize b.t.testBit i = s
  generalize c.t.testBit i = r'
  revert p q p' r s r'
  decide
/-! ### A lattice -/
theorem bit_join (a b : LabD) (i : Nat) : (joinD a b).s.testBit i = (a.s.testBit i || b.s.testBit i) ∧ (joinD a b).t.testBit i = (a.t.testBit i && b.t.testBit i) := ⟨Nat.testBit_or _ _ _, Nat.testBit_and _ _ _⟩
theorem bit_meet (a b : LabD) (i : Nat) : (meetD a b).s.testBit i = (a.s.testBit i && b.s.testBit i) ∧ (meetD a b).t.testBit i = (a.t.testBit i || b.t.testBit i) := ⟨Nat.testBit_and _ _ _, Nat.testBit_or _ _ _⟩
theorem join_up {a b : LabD} (ha : a.ok) (hb : b.ok) : flowsB a (joinD a b) = true := (flows_iff ha (join_ok ha hb)).2 fun i => by
  rw [(bit_join a b i).1, (bit_join a b i).2]
  cases a.s.testBit i <;> cases a.t.testBit i <;> simp
theorem join_comm (a b : LabD) : joinD a b = joinD b a := by unfold joinD; rw [Nat.or_comm, Nat.and_comm]
theorem meet_comm (a b : LabD) : meetD a b = meetD b a := by unfold meetD; rw [Nat.or_comm, Nat.and_comm]
theorem meet_down {a b : LabD} (ha : a.ok) (hb : b.ok) : flowsB (meetD a b) a = true := (flows_iff (meet_ok ha hb) ha).2 fun i => by
  rw [(bit_meet a b i).1, (bit_meet a b i).2]
  cases a.s.testBit i <;> cases a.t.testBit i <;> simp
theorem join_least {a b c : LabD} (ha : a.ok) (hb : b.ok) (hc : c.ok) (h : flowsB a c = true) (k : flowsB b c = true) : flowsB (joinD a b) c = true := by
  rw [flows_iff ha hc] at h
  rw [flows_iff hb hc] at k
  rw [flows_iff (join_ok ha hb) hc]
  intro i
  have h := h i
  have k := k i
  rw [(bit_join a b i).1, (bit_join a b i).2]
  revert h k
  generalize a.s.testBit i = p
  generalize b.s.testBit i = q
  generalize c.s.testBit i = p'
  generalize a.t.testBit i = r
  generalize b.t.testBit i = s
  generalize c.t.testBit i = r'
  revert p q p' r s r'
  decide
theorem meet_great {a b c : LabD} (ha : a.ok) (hb : b.ok) (hc : c.ok) (h : flowsB c a = true) (k : flowsB c b = true) : flowsB c (meetD a b) = true := by
  rw [flows_iff hc ha] at h
  rw [flows_iff hc hb] at k
  rw [flows_iff hc (meet_ok ha hb)]
  intro i
  have h := h i
  have k := k i
  rw [(bit_meet a b i).1, (bit_meet a b i).2]
  revert h k
  generalize a.s.testBit i = p
  generalize b.s.testBit i = q
  generalize c.s.testBit i = p'
  generalize a.t.testBit i = r
  generalize b.t.testBit i = s
  generalize c.t.testBit i = r'
  revert p q p' r s r'
  decide
theorem join_meet {a b : LabD} (ha : a.ok) (hb : b.ok) : joinD a (meetD a b) = a := lab_ext (join_ok ha (meet_ok ha hb)) ha fun i => by
  rw [(bit_join _ _ i).1, (bit_join _ _ i).2, (bit_meet _ _ i).1, (bit_meet _ _ i).2]
  cases a.s.testBit i <;> cases a.t.testBit i <;> simp
theorem meet_join {a b : LabD} (ha : a.ok) (hb : b.ok) : meetD a (joinD a b) = a := lab_ext (meet_ok ha (join_ok ha hb)) ha fun i => by
  rw [(bit_meet _ _ i).1, (bit_meet _ _ i).2, (bit_join _ _ i).1, (bit_join _ _ i).2]
  cases a.s.testBit i <;> cases a.t.testBit i <;> simp
theorem join_assoc (a b c : LabD) : joinD (joinD a b) c = joinD a (joinD b c) := by unfold joinD; simp only [Nat.or_assoc, Nat.and_assoc]
theorem meet_assoc (a b c : LabD) : meetD (meetD a b) c = meetD a (meetD b c) := by unfold meetD; simp only [Nat.or_assoc, Nat.and_assoc]
/-! ### What is needed -/
theorem need_enough {a b : LabD} (ha : a.ok) (hb : b.ok) : withB a b (needN a b) = true := (within_iff (need_lt ha hb) (need_lt ha hb)).2 fun _ h => h
theorem need_more {a b : LabD} {m : Nat} (ha : a.ok) (hb : b.ok) (hm : okW64 m) : withB a b (needN a b ||| m) = true := (within_iff (need_lt ha hb) (or_lt (need_lt ha hb) hm)).2 fun i h => by rw [Nat.testBit_or, h]; rfl
theorem flows_need {a b : LabD} (ha : a.ok) (hb : b.ok) : flowsB a b = ((needN a b : Int) == 0) := by
  unfold flowsB withB within minus
  rw [show (18446744073709551615 - 0 : Nat) = 2 ^ 64 - 1 from rfl, Nat.and_two_pow_sub_one_of_lt_two_pow (need_lt ha hb)]
  by_cases h : needN a b = 0
  · rw [h]; rfl
  · simp [h]
theorem need_three {a b c : LabD} (ha : a.ok) (hb : b.ok) (hc : c.ok) : minus (needN a c) (needN a b ||| needN b c) = 0 :=
  (minus_zero (need_lt ha hc) (or_lt (need_lt ha hb) (need_lt hb hc))).2 fun i => by
    rw [bit_need ha hc, Nat.testBit_or, bit_need ha hb, bit_need hb hc]
    generalize a.s.testBit i = p
    generalize b.s.testBit i = q
    generalize c.s.testBit i = p'
    generalize a.t.testBit i = r
    generalize b.t.testBit i = s
    generalize c.t.testBit i = r'
    revert p q p' r s r'
    decide
/-! ### Raised labels -/
theorem bit_raise {a : LabD} {u v : Nat} (ha : a.ok) (hv : okW64 v) (i : Nat) : (raiseD a u v).s.testBit i = (a.s.testBit i || u.testBit i) ∧ (raiseD a u v).t.testBit i = (a.t.testBit i && !v.testBit i) := ⟨Nat.testBit_or _ _ _, bit_minus ha.2 hv i⟩
theorem raise_up {a : LabD} {u v : Nat} (ha : a.ok) (hu : okW64 u) (hv : okW64 v) : flowsB a (raiseD a u v) = true := (flows_iff ha (raise_ok ha hu)).2 fun i => by
  rw [(bit_raise ha hv i).1, (bit_raise ha hv i).2]
  cases a.s.testBit i <;> cases a.t.testBit i <;> simp
theorem raise_back {a : LabD} {u v : Nat} (ha : a.ok) (hu : okW64 u) (hv : okW64 v) : minus (needN (raiseD a u v) a) (u ||| v) = 0 :=
  (minus_zero (need_lt (raise_ok ha hu) ha) (or_lt hu hv)).2 fun i => by
    rw [bit_need (raise_ok ha hu) ha, (bit_raise ha hv i).1, (bit_raise ha hv i).2, Nat.testBit_or]
    generalize a.s.testBit i = p
    generalize a.t.testBit i = r
    generalize u.testBit i = q
    generalize v.testBit i = s
    revert p q r s
    decide
theorem raise_with {a : LabD} {u v : Nat} (ha : a.ok) (hu : okW64 u) (hv : okW64 v) : withB (raiseD a u v) a (u ||| v) = true := by
  unfold withB within
  rw [raise_back ha hu hv]; rfl
theorem raise_twice {a : LabD} {u v : Nat} (ha : a.ok) (hu : okW64 u) (hv : okW64 v) : raiseD (raiseD a u v) u v = raiseD a u v := lab_ext (raise_ok (raise_ok ha hu) hu) (raise_ok ha hu) fun i => by
  rw [(bit_raise (raise_ok ha hu) hv i).1, (bit_raise (raise_ok ha hu) hv i).2, (bit_raise ha hv i).1, (bit_raise ha hv i).2]
  cases a.s.testBit i <;> cases a.t.testBit i <;> cases u.testBit i <;> cases v.testBit i <;> simp
theorem raise_none {a : LabD} (ha : a.ok) : raiseD a 0 0 = a := lab_ext (raise_ok ha (by decide)) ha fun i => by
  rw [(bit_raise ha (by decide) i).1, (bit_raise ha (by decide) i).2, Nat.zero_testBit]
  simp
/-! ### What a join needs -/
theorem need_join {a b c : LabD} (ha : a.ok) (hb : b.ok) (hc : c.ok) : needN (joinD a b) c = needN a c ||| needN b c :=
  set_ext (need_lt (join_ok ha hb) hc) (or_lt (need_lt ha hc) (need_lt hb hc)) fun i _ => by
    rw [bit_need (join_ok ha hb) hc, Nat.testBit_or, bit_need ha hc, bit_need hb hc, (bit_join a b i).1, (bit_join a b i).2]
    generalize a.s.testBit i = p
    generalize b.s.testBit i = q
    generalize c.s.testBit i = p'
    generalize a.t.testBit i = r
    generalize b.t.testBit i = s
    generalize c.t.testBit i = r'
    revert p q p' r s r'
    decide
theorem need_meet {a b c : LabD} (ha : a.ok) (hb : b.ok) (hc : c.ok) : needN c (meetD a b) = needN c a ||| needN c b :=
  set_ext (need_lt hc (meet_ok ha hb)) (or_lt (need_lt hc ha) (need_lt hc hb)) fun i _ => by
    rw [bit_need hc (meet_ok ha hb), Nat.testBit_or, bit_need hc ha, bit_need hc hb, (bit_meet a b i).1, (bit_meet a b i).2]
    generalize a.s.testBit i = p
    generalize b.s.testBit i = q
    generalize c.s.testBit i = p'
    generalize a.t.testBit i = r
    generalize b.t.testBit i = s
    generalize c.t.testBit i = r'
    revert p q p' r s r'
    decide
theorem with_join {a b c : LabD} {o : Nat} (ha : a.ok) (hb : b.ok) (hc : c.ok) (ho : okW64 o) : withB (joinD a b) c o = (withB a c o && withB b c o) := by
  rw [Bool.eq_iff_iff, Bool.and_eq_true]
  unfold withB
  rw [within_iff (need_lt (join_ok ha hb) hc) ho, within_iff (need_lt ha hc) ho, within_iff (need_lt hb hc) ho, need_join ha hb hc]
  constructor
  · intro h
    exact ⟨fun i k => h i (by rw [Nat.testBit_or, k]; rfl), fun i k => h i (by rw [Nat.testBit_or, k, Bool.or_true])⟩
  · rintro ⟨h, k⟩ i e
    rw [Nat.testBit_or, Bool.or_eq_true] at e
    exact e.elim (h i) (k i)
end Go.Proofs.YtcodphddkkjocaaGreatDoor

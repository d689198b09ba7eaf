/- Layer 1 for the stages above it: word.Pack: numbers in one word, for every two lists of numbers. -/
import Derived.Test.YtcodphddkkjocaaGreatDoorVe
import Derived.Test.YtcodphddkkjocaaGreatDoorRound
namespace Go.Proofs.YtcodphddkkjocaaGreatDoor
open Go.RowKit Go.Shelf

attribute [local go_sem] Oper.semAt_some

set_option maxRecDepth 100000 in
set_option maxHeartbeats 2000000 in
theorem from_no_in (F : Fence) (n : Nat) (h0 : F.fn 25) (hro : F.round = none) (A : Option Addr) (cap len : Nat) (hl : 8 < len) (hl2 : len ≤ 140737488355328) (w : World) :
    CallsIn F n Tryz.prog 25 #[.slice A len cap] w fun e W' => e = .returned (.tuple #[.int .u64 0, .bool false]) ∧ w = W' := by
  have hd : decide ((8 : Int) < (len : Int)) = true := by simp; omega
  refine callsIn_of_wp_marks Tryz.func25 rfl h0 ?_ hro
  simp only [Tryz.ntmps25, List.size_toArray, List.length_cons, List.length_nil, Nat.reduceAdd, Nat.reduceSub, Array.replicate_succ, Array.replicate_zero, List.push_toArray, List.append_toArray, List.nil_append, List.cons_append]
  gi_wp2
  exact ⟨_, results_tmp2 rfl _ _ _, rfl, rfl⟩

theorem from_yes (A : Option Addr) (cap : Nat) (zs : List Int) (hz : isBytes zs) (hl : zs.length ≤ 8) (w : World) (hI : Ints .u8 w.heap.size w A zs) :
    Calls Tryz.prog 25 #[.slice A zs.length cap] w fun e W' => e = .returned (.tuple #[.int .u64 (fromN zs), .bool true]) ∧ Below w.heap.size w W' :=
  callsIn_wide.1 (from_in Fence.wide 3 trivial trivial trivial rfl (Nat.le_refl _) A cap zs hz hl w hI)
theorem from_no (A : Option Addr) (cap len : Nat) (hl : 8 < len) (hl2 : len ≤ 140737488355328) (w : World) :
    Calls Tryz.prog 25 #[.slice A len cap] w fun e W' => e = .returned (.tuple #[.int .u64 0, .bool false]) ∧ w = W' :=
  callsIn_wide.1 (from_no_in Fence.wide 3 trivial rfl A cap len hl hl2 w)


/-! ### Pack: its arithmetic -/
/-- A number fits its width. -/
def okV (x v : Int) : Bool := decide (0 ≤ v) && decide (v < 2 ^ x.toNat)
def pstep (u : Nat) (x v : Int) : Nat := u * 2 ^ x.toNat % 18446744073709551616 ||| v.toNat
def pF (ws vs : List Int) (L : List Nat) : Nat := L.foldl (fun u i => pstep u (ws[i]?.getD 0) (vs[i]?.getD 0)) 0
theorem pF_snoc (ws vs : List Int) (pre : List (Pl vs.length)) (x : Pl vs.length) : pF ws vs ((pre ++ [x]).map (·.1)) = pstep (pF ws vs (pre.map (·.1))) (ws[x.1]?.getD 0) (vs[x.1]?.getD 0) := by
  simp [pF]
theorem pow63 (x : Int) (h2 : x ≤ 63) : (2 : Nat) ^ x.toNat ≤ 9223372036854775808 := by
  have : (2 : Nat) ^ x.toNat ≤ 2 ^ 63 := Nat.pow_le_pow_right (by decide) (by omega)
  exact this
theorem okV_iff (x v : Int) : okV x v = true ↔ 0 ≤ v ∧ v.toNat < 2 ^ x.toNat := by
  unfold okV
  have e : ((2 : Int) ^ x.toNat) = ((2 ^ x.toNat : Nat) : Int) := by simp
  rw [e]; simp only [Bool.and_eq_true, decide_eq_true_eq]; omega
theorem pstep_lt (u : Nat) (x v : Int) (h : okV x v = true) (h2 : x ≤ 63) : pstep u x v < 18446744073709551616 := by
  have := (okV_iff x v).1 h
  have := pow63 x h2
  exact Nat.or_lt_two_pow (n := 64) (by omega) (by omega)
theorem pstep_walk (u : Nat) (x v : Int) (h : okV x v = true) (h2 : x ≤ 63) : bits .or .u64 (IntKind.u64.wrap ((u : Int) * 2 ^ x.toNat)) v = ((pstep u x v : Nat) : Int) := by
  obtain ⟨h3, h4⟩ := (okV_iff x v).1 h
  have h5 := pow63 x h2
  have e : IntKind.u64.wrap ((u : Int) * 2 ^ x.toNat) = ((u * 2 ^ x.toNat % 18446744073709551616 : Nat) : Int) := by
    rw [IntKind.wrap_u64]; simp
  have ev : v = (v.toNat : Int) := by omega
  rw [e]
  conv => lhs; rw [ev]
  rw [bits_or_u64_nat _ _ (by omega) (by omega)]
  rfl
/-- The word of numbers. -/
def packN : List Int → List Int → Nat
  | x :: ws, v :: vs => v.toNat + 2 ^ x.toNat * packN ws vs
  | _, _ => 0
theorem packN_cons (x v : Int) (ws vs : List Int) : packN (x :: ws) (v :: vs) = v.toNat + 2 ^ x.toNat * packN ws vs := rfl
def okVs : List Int → List Int → Bool
  | [], [] => true
  | x :: ws, v :: vs => okV x v && okVs ws vs
  | _, _ => false
/-- What Pack takes. -/
def packOK (ws vs : List Int) : Bool := okW ws && okVs ws vs
theorem packN_lt (ws vs : List Int) (hw : ∀ x ∈ ws, 1 ≤ x ∧ x ≤ 63) (h : okVs ws vs = true) : packN ws vs < 2 ^ (sumI ws).toNat := by
  induction ws generalizing vs with
  | nil => cases vs <;> simp [packN, sumI]
  | cons x ws ih =>
    cases vs with
    | nil => simp [okVs] at h
    | cons v vs =>
      simp only [okVs, Bool.and_eq_true] at h
      have h1 := ih vs (fun y hy => hw y (by simp [hy])) h.2
      have h2 := ((okV_iff x v).1 h.1).2
      have hx := hw x (by simp)
      have hs := sumI_pos ws (fun y hy => hw y (by simp [hy]))
      unfold packN
      rw [show (sumI (x :: ws)).toNat = x.toNat + (sumI ws).toNat by simp [sumI]; omega, Nat.pow_add]
      have h3 : 2 ^ x.toNat * (packN ws vs + 1) ≤ 2 ^ x.toNat * 2 ^ (sumI ws).toNat := Nat.mul_le_mul_left _ h1
      rw [Nat.mul_add] at h3
      omega
theorem okVs_length (ws vs : List Int) (h : okVs ws vs = true) : ws.length = vs.length := by
  induction ws generalizing vs with
  | nil => cases vs <;> simp [okVs] at h ⊢
  | cons x ws ih =>
    cases vs with
    | nil => simp [okVs] at h
    | cons v vs => simp only [okVs, Bool.and_eq_true] at h; simp [ih vs h.2]
theorem okVs_drop (ws vs : List Int) (h : okVs ws vs = true) (k : Nat) : okVs (ws.drop k) (vs.drop k) = true := by
  induction k generalizing ws vs with
  | zero => simpa using h
  | succ k ih =>
    cases ws with
    | nil => cases vs <;> simp [okVs] at h ⊢
    | cons x ws =>
      cases vs with
      | nil => simp [okVs] at h
      | cons v vs => simp only [okVs, Bool.and_eq_true] at h; simpa using ih ws vs h.2
theorem okVs_of (ws vs : List Int) (hl : ws.length = vs.length) (h : ∀ i, i < vs.length → okV (ws[i]?.getD 0) (vs[i]?.getD 0) = true) : okVs ws vs = true := by
  induction ws generalizing vs with
  | nil => cases vs with
    | nil => rfl
    | cons v vs => simp at hl
  | cons x ws ih =>
    cases vs with
    | nil => simp at hl
    | cons v vs =>
      simp only [okVs, Bool.and_eq_true]
      refine ⟨by simpa using h 0 (by simp), ih vs (by simpa using hl) (fun i hi => ?_)⟩
      simpa using h (i + 1) (by simp; omega)
theorem okVs_at (ws vs : List Int) (h : okVs ws vs = true) (i : Nat) (hi : i < vs.length) : okV (ws[i]?.getD 0) (vs[i]?.getD 0) = true := by
  induction ws generalizing vs i with
  | nil => cases vs <;> simp [okVs] at h hi
  | cons x ws ih =>
    cases vs with
    | nil => simp [okVs] at h
    | cons v vs =>
      simp only [okVs, Bool.and_eq_true] at h
      cases i with
      | zero => simpa using h.1
      | succ i => simpa using ih vs h.2 i (by simpa using hi)
theorem sumI_drop_le (ws : List Int) (h : okW ws = true) (k : Nat) : 0 ≤ sumI (ws.drop k) ∧ sumI (ws.drop k) ≤ 64 := by
  have e := sumI_append (ws.take k) (ws.drop k)
  rw [List.take_append_drop] at e
  have h1 := ((okW_iff ws).1 h).2
  have h2 := take_nonneg ws h k
  have := sumI_pos (ws.drop k) (fun x hx => ((okW_iff ws).1 h).1 x (List.mem_of_mem_drop hx))
  omega
theorem pF_down (ws vs : List Int) (ho : okW ws = true) (hv : okVs ws vs = true) : ∀ k, k ≤ vs.length → pF ws vs (downL vs.length k) = packN (ws.drop (vs.length - k)) (vs.drop (vs.length - k)) := by
  have hlen := okVs_length ws vs hv
  intro k
  induction k with
  | zero => intro _; simp [downL, pF, packN]
  | succ k ih =>
    intro hk
    have e1 : pF ws vs (downL vs.length (k + 1)) = pstep (pF ws vs (downL vs.length k)) (ws[vs.length - 1 - k]?.getD 0) (vs[vs.length - 1 - k]?.getD 0) := by
      rw [downL_succ]; unfold pF; rw [List.foldl_append]; rfl
    have hi : vs.length - (k + 1) < vs.length := by omega
    have hi' : vs.length - (k + 1) < ws.length := by omega
    have e2 : vs.drop (vs.length - (k + 1)) = vs[vs.length - (k + 1)] :: vs.drop (vs.length - k) := by
      rw [List.drop_eq_getElem_cons hi, show vs.length - (k + 1) + 1 = vs.length - k by omega]
    have e3 : ws.drop (vs.length - (k + 1)) = ws[vs.length - (k + 1)] :: ws.drop (vs.length - k) := by
      rw [List.drop_eq_getElem_cons hi', show vs.length - (k + 1) + 1 = vs.length - k by omega]
    have hov := okVs_at ws vs hv (vs.length - (k + 1)) hi
    have hd := okVs_drop ws vs hv (vs.length - k)
    have hwk := fun x hx => ((okW_iff ws).1 ho).1 x (List.mem_of_mem_drop (i := vs.length - k) hx)
    have hlt := packN_lt _ _ hwk hd
    have hs := sumI_drop_le ws ho (vs.length - (k + 1))
    have hs2 := sumI_drop_le ws ho (vs.length - k)
    rw [e3] at hs
    simp only [sumI] at hs
    have hx := okW_at ws ho (vs.length - (k + 1)) hi'
    rw [e1, ih (by omega), e2, e3, packN_cons, show vs.length - 1 - k = vs.length - (k + 1) by omega]
    simp only [List.getElem?_eq_getElem hi, List.getElem?_eq_getElem hi', Option.getD_some] at hov hx ⊢
    generalize ws[vs.length - (k + 1)] = x at *
    generalize vs[vs.length - (k + 1)] = v at *
    generalize packN (ws.drop (vs.length - k)) (vs.drop (vs.length - k)) = u at *
    have hm : u * 2 ^ x.toNat < 18446744073709551616 := by
      have a1 : (u + 1) * 2 ^ x.toNat ≤ 2 ^ (sumI (ws.drop (vs.length - k))).toNat * 2 ^ x.toNat := Nat.mul_le_mul_right _ hlt
      rw [← Nat.pow_add] at a1
      have a2 : 2 ^ ((sumI (ws.drop (vs.length - k))).toNat + x.toNat) ≤ 2 ^ 64 := Nat.pow_le_pow_right (by decide) (by omega)
      rw [Nat.add_mul] at a1
      have a3 : 0 < 2 ^ x.toNat := Nat.two_pow_pos _
      omega
    show pstep u x v = v.toNat + 2 ^ x.toNat * u
    unfold pstep
    rw [Nat.mod_eq_of_lt hm, or_disjoint _ _ _ ((okV_iff x v).1 hov).2, Nat.mul_comm]
    omega

/-- How Pack's test on a number comes out. -/
theorem test_walk (x v : Int) (h3 : 0 ≤ v) (h4 : v < 9223372036854775808) : decide (((2 ^ x.toNat - 1 : Nat) : Int) < v) = !okV x v := by
  have a := okV_iff x v
  have p : 0 < 2 ^ x.toNat := Nat.two_pow_pos _
  cases h : okV x v
  · have : ¬ (0 ≤ v ∧ v.toNat < 2 ^ x.toNat) := fun hh => by rw [a.2 hh] at h; cases h
    simp only [Bool.not_false, decide_eq_true_eq]
    omega
  · have := a.1 h
    simp only [Bool.not_true, decide_eq_false_iff_not]
    omega

def i64s (vs : List Int) : Prop := ∀ v ∈ vs, -9223372036854775808 ≤ v ∧ v < 9223372036854775808
theorem i64s_at (vs : List Int) (h : i64s vs) (i : Nat) : -9223372036854775808 ≤ vs[i]?.getD 0 ∧ vs[i]?.getD 0 < 9223372036854775808 := by
  by_cases hi : i < vs.length
  · have := h vs[i] (by simp)
    simp [hi]; omega
  · simp [hi]

def PackPost (ws vs : List Int) (w : World) (e : Ending) (W' : World) : Prop :=
  e = .returned (.tuple #[.int .u64 ((if okVs ws vs then packN ws vs else 0 : Nat) : Int), .bool (okVs ws vs)]) ∧ Below w.heap.size w W'

end Go.Proofs.YtcodphddkkjocaaGreatDoor

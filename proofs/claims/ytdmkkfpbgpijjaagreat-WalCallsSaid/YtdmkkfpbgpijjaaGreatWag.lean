/- Layer 1 for the stages above it: word.Pack: numbers in one word, for every two lists of numbers. Layer 1 for the stages above it: word.Pack at every two lists; the numbers that the document fixes ('alive'). Layer 1 for the stages above it: lists of bytes of a word, numbers packed and unpacked, what Bytes, From, Pack and Unpack answer as lists. -/
import Derived.Test.YtdmkkfpbgpijjaaGreatWaf
namespace Go.Proofs.YtdmkkfpbgpijjaaGreat
open Go.RowKit Go.Shelf

attribute [local go_sem] Oper.semAt_some

theorem from_yes (A : Option Addr) (cap : Nat) (zs : List Int) (hz : isBytes zs) (hl : zs.length ≤ 8) (w : World) (hI : Ints .u8 w.heap.size w A zs) :
    Calls Tryz.prog 88 #[.slice A zs.length cap] w fun e W' => e = .returned (.tuple #[.int .u64 (fromN zs), .bool true]) ∧ Below w.heap.size w W' :=
  callsIn_wide.1 (from_in Fence.wide 3 trivial trivial trivial rfl (Nat.le_refl _) A cap zs hz hl w hI)
/-- A number fits its width. -/
def okV (x v : Int) : Bool := decide (0 ≤ v) && decide (v < 2 ^ x.toNat)
def pstep (u : Nat) (x v : Int) : Nat := u * 2 ^ x.toNat % 18446744073709551616 ||| v.toNat
def pF (ws vs : List Int) (L : List Nat) : Nat := L.foldl (fun u i => pstep u (ws[i]?.getD 0) (vs[i]?.getD 0)) 0
theorem pF_snoc (ws vs : List Int) (pre : List (Pl vs.length)) (x : Pl vs.length) : pF ws vs ((pre ++ [x]).map (·.1)) = pstep (pF ws vs (pre.map (·.1))) (ws[x.1]?.getD 0) (vs[x.1]?.getD 0) := by
  simp [pF]
theorem pow63 (x : Int) (h2 : x ≤ 63) : (2 : Nat) ^ x.toNat ≤ 9223372036854775808 := by
  have : (2 : Nat) ^ x.toNat ≤ 2 ^ 63 := Nat.pow_le_pow_right (by decide) (by omega)
  exact this
theorem okV_iff (x v : Int) : okV x v = true ↔ 0 ≤ v ∧ v.toNat < 2 ^ x.toNat := by
  unfold okV
  have e : ((2 : Int) ^ x.toNat) = ((2 ^ x.toNat : Nat) : Int) := by simp
  rw [e]; simp only [Bool.and_eq_true, decide_eq_true_eq]; omega
theorem pstep_walk (u : Nat) (x v : Int) (h : okV x v = true) (h2 : x ≤ 63) : bits .or .u64 (IntKind.u64.wrap ((u : Int) * 2 ^ x.toNat)) v = ((pstep u x v : Nat) : Int) := by
  obtain ⟨h3, h4⟩ := (okV_iff x v).1 h
  have h5 := pow63 x h2
  have e : IntKind.u64.wrap ((u : Int) * 2 ^ x.toNat) = ((u * 2 ^ x.toNat % 18446744073709551616 : Nat) : Int) := by
    rw [IntKind.wrap_u64]; simp
  have ev : v = (v.toNat : Int) := by omega
  rw [e]
  conv => lhs; rw [ev]
  rw [bits_or_u64_nat _ _ (by omega) (by omega)]
  rfl
/-- The word of numbers. -/
def packN : List Int → List Int → Nat
  | x :: ws, v :: vs => v.toNat + 2 ^ x.toNat * packN ws vs
  | _, _ => 0
theorem packN_cons (x v : Int) (ws vs : List Int) : packN (x :: ws) (v :: vs) = v.toNat + 2 ^ x.toNat * packN ws vs := rfl
def okVs : List Int → List Int → Bool
  | [], [] => true
  | x :: ws, v :: vs => okV x v && okVs ws vs
  | _, _ => false
/-- What Pack takes. -/
def packOK (ws vs : List Int) : Bool := okW ws && okVs ws vs
theorem packN_lt (ws vs : List Int) (hw : ∀ x ∈ ws, 1 ≤ x ∧ x ≤ 63) (h : okVs ws vs = true) : packN ws vs < 2 ^ (sumI ws).toNat := by
  induction ws generalizing vs with
  | nil => cases vs <;> simp [packN, sumI]
  | cons x ws ih =>
    cases vs with
    | nil => simp [okVs] at h
    | cons v vs =>
      simp only [okVs, Bool.and_eq_true] at h
      have h1 := ih vs (fun y hy => hw y (by simp [hy])) h.2
      have h2 := ((okV_iff x v).1 h.1).2
      have hx := hw x (by simp)
      have hs := sumI_pos ws (fun y hy => hw y (by simp [hy]))
      unfold packN
      rw [show (sumI (x :: ws)).toNat = x.toNat + (sumI ws).toNat by simp [sumI]; omega, Nat.pow_add]
      have h3 : 2 ^ x.toNat * (packN ws vs + 1) ≤ 2 ^ x.toNat * 2 ^ (sumI ws).toNat := Nat.mul_le_mul_left _ h1
      rw [Nat.mul_add] at h3
      omega
theorem okVs_length (ws vs : List Int) (h : okVs ws vs = true) : ws.length = vs.length := by
  induction ws generalizing vs with
  | nil => cases vs <;> simp [okVs] at h ⊢
  | cons x ws ih =>
    cases vs with
    | nil => simp [okVs] at h
    | cons v vs => simp only [okVs, Bool.and_eq_true] at h; simp [ih vs h.2]
theorem okVs_drop (ws vs : List Int) (h : okVs ws vs = true) (k : Nat) : okVs (ws.drop k) (vs.drop k) = true := by
  induction k generalizing ws vs with
  | zero => simpa using h
  | succ k ih =>
    cases ws with
    | nil => cases vs <;> simp [okVs] at h ⊢
    | cons x ws =>
      cases vs with
      | nil => simp [okVs] at h
      | cons v vs => simp only [okVs, Bool.and_eq_true] at h; simpa using ih ws vs h.2
theorem okVs_of (ws vs : List Int) (hl : ws.length = vs.length) (h : ∀ i, i < vs.length → okV (ws[i]?.getD 0) (vs[i]?.getD 0) = true) : okVs ws vs = true := by
  induction ws generalizing vs with
  | nil => cases vs with
    | nil => rfl
    | cons v vs => simp at hl
  | cons x ws ih =>
    cases vs with
    | nil => simp at hl
    | cons v vs =>
      simp only [okVs, Bool.and_eq_true]
      refine ⟨by simpa using h 0 (by simp), ih vs (by simpa using hl) (fun i hi => ?_)⟩
      simpa using h (i + 1) (by simp; omega)
theorem okVs_at (ws vs : List Int) (h : okVs ws vs = true) (i : Nat) (hi : i < vs.length) : okV (ws[i]?.getD 0) (vs[i]?.getD 0) = true := by
  induction ws generalizing vs i with
  | nil => cases vs <;> simp [okVs] at h hi
  | cons x ws ih =>
    cases vs with
    | nil => simp [okVs] at h
    | cons v vs =>
      simp only [okVs, Bool.and_eq_true] at h
      cases i with
      | zero => simpa using h.1
      | succ i => simpa using ih vs h.2 i (by simpa using hi)
theorem sumI_drop_le (ws : List Int) (h : okW ws = true) (k : Nat) : 0 ≤ sumI (ws.drop k) ∧ sumI (ws.drop k) ≤ 64 := by
  have e := sumI_append (ws.take k) (ws.drop k)
  rw [List.take_append_drop] at e
  have h1 := ((okW_iff ws).1 h).2
  have h2 := take_nonneg ws h k
  have := sumI_pos (ws.drop k) (fun x hx => ((okW_iff ws).1 h).1 x (List.mem_of_mem_drop hx))
  omega
theorem pF_down (ws vs : List Int) (ho : okW ws = true) (hv : okVs ws vs = true) : ∀ k, k ≤ vs.length → pF ws vs (downL vs.length k) = packN (ws.drop (vs.length - k)) (vs.drop (vs.length - k)) := by
  have hlen := okVs_length ws vs hv
  intro k
  induction k with
  | zero => intro _; simp [downL, pF, packN]
  | succ k ih =>
    intro hk
    have e1 : pF ws vs (downL vs.length (k + 1)) = pstep (pF ws vs (downL vs.length k)) (ws[vs.length - 1 - k]?.getD 0) (vs[vs.length - 1 - k]?.getD 0) := by
      rw [downL_succ]; unfold pF; rw [List.foldl_append]; rfl
    have hi : vs.length - (k + 1) < vs.length := by omega
    have hi' : vs.length - (k + 1) < ws.length := by omega
    have e2 : vs.drop (vs.length - (k + 1)) = vs[vs.length - (k + 1)] :: vs.drop (vs.length - k) := by
      rw [List.drop_eq_getElem_cons hi, show vs.length - (k + 1) + 1 = vs.length - k by omega]
    have e3 : ws.drop (vs.length - (k + 1)) = ws[vs.length - (k + 1)] :: ws.drop (vs.length - k) := by
      rw [List.drop_eq_getElem_cons hi', show vs.length - (k + 1) + 1 = vs.length - k by omega]
    have hov := okVs_at ws vs hv (vs.length - (k + 1)) hi
    have hd := okVs_drop ws vs hv (vs.length - k)
    have hwk := fun x hx => ((okW_iff ws).1 ho).1 x (List.mem_of_mem_drop (i := vs.length - k) hx)
    have hlt := packN_lt _ _ hwk hd
    have hs := sumI_drop_le ws ho (vs.length - (k + 1))
    have hs2 := sumI_drop_le ws ho (vs.length - k)
    rw [e3] at hs
    simp only [sumI] at hs
    have hx := okW_at ws ho (vs.length - (k + 1)) hi'
    rw [e1, ih (by omega), e2, e3, packN_cons, show vs.length - 1 - k = vs.length - (k + 1) by omega]
    simp only [List.getElem?_eq_getElem hi, List.getElem?_eq_getElem hi', Option.getD_some] at hov hx ⊢
    generalize ws[vs.length - (k + 1)] = x at *
    generalize vs[vs.length - (k + 1)] = v at *
    generalize packN (ws.drop (vs.length - k)) (vs.drop (vs.length - k)) = u at *
    have hm : u * 2 ^ x.toNat < 18446744073709551616 := by
      have a1 : (u + 1) * 2 ^ x.toNat ≤ 2 ^ (sumI (ws.drop (vs.length - k))).toNat * 2 ^ x.toNat := Nat.mul_le_mul_right _ hlt
      rw [← Nat.pow_add] at a1
      have a2 : 2 ^ ((sumI (ws.drop (vs.length - k))).toNat + x.toNat) ≤ 2 ^ 64 := Nat.pow_le_pow_right (by decide) (by omega)
      rw [Nat.add_mul] at a1
      have a3 : 0 < 2 ^ x.toNat := Nat.two_pow_pos _
      omega
    show pstep u x v = v.toNat + 2 ^ x.toNat * u
    unfold pstep
    rw [Nat.mod_eq_of_lt hm, or_disjoint _ _ _ ((okV_iff x v).1 hov).2, Nat.mul_comm]
    omega

/-- How Pack's test on a number comes out. -/
theorem test_walk (x v : Int) (h3 : 0 ≤ v) (h4 : v < 9223372036854775808) : decide (((2 ^ x.toNat - 1 : Nat) : Int) < v) = !okV x v := by
  have a := okV_iff x v
  have p : 0 < 2 ^ x.toNat := Nat.two_pow_pos _
  cases h : okV x v
  · have : ¬ (0 ≤ v ∧ v.toNat < 2 ^ x.toNat) := fun hh => by rw [a.2 hh] at h; cases h
    simp only [Bool.not_false, decide_eq_true_eq]
    omega
  · have := a.1 h
    simp only [Bool.not_true, decide_eq_false_iff_not]
    omega

def i64s (vs : List Int) : Prop := ∀ v ∈ vs, -9223372036854775808 ≤ v ∧ v < 9223372036854775808
theorem i64s_at (vs : List Int) (h : i64s vs) (i : Nat) : -9223372036854775808 ≤ vs[i]?.getD 0 ∧ vs[i]?.getD 0 < 9223372036854775808 := by
  by_cases hi : i < vs.length
  · have := h vs[i] (by simp)
    simp [hi]; omega
  · simp [hi]

def PackPost (ws vs : List Int) (w : World) (e : Ending) (W' : World) : Prop :=
  e = .returned (.tuple #[.int .u64 ((if okVs ws vs then packN ws vs else 0 : Nat) : Int), .bool (okVs ws vs)]) ∧ Below w.heap.size w W'

set_option maxRecDepth 100000 in
set_option maxHeartbeats 2000000 in
theorem pack_in (n : Nat) (hn : 4 ≤ n) (A A' : Option Addr) (cap cap' : Nat) (ws vs : List Int) (ho : okW ws = true) (hv : i64s vs) (he : ws.length = vs.length) (hl : vs.length ≤ 64) (w : World) (hI : Ints .i64 w.heap.size w A ws) (hI' : Ints .i64 w.heap.size w A' vs) :
    CallsIn Fence.wide n Tryz.prog 101 #[.slice A ws.length cap, .slice A' vs.length cap'] w (PackPost ws vs w) := by
  have hro : Fence.wide.round = none := rfl
  have hn1 : 1 ≤ n := by omega
  have hd : ((ws.length : Int) != (vs.length : Int)) = false := by rw [he]; simp
  have HE := Lib.hid he
  clear he
  have HRW := fun W => Lib.hid (fun h => rightWidths_any A ws cap w.heap.size W h (by have := HE.out; omega))
  rw [ho] at HRW
  have HO := Lib.hid ho
  clear ho
  refine callsIn_of_wp_marks Tryz.func101 rfl trivial ?_ hro
  simp only [Tryz.ntmps101, List.size_toArray, List.length_cons, List.length_nil, Nat.reduceAdd, Nat.reduceSub, Array.replicate_succ, Array.replicate_zero, List.push_toArray, List.append_toArray, List.nil_append, List.cons_append]
  gi_wp2_with fail
  refine ⟨trivial, ?_⟩
  refine (callsIn_wide.2 ((HRW _).out (hI.below (((Below.refl _ w).alloc (Nat.le_refl _) _ |>.alloc (by simp) _).alloc (by simp; omega) _) (Nat.le_refl _)))).mono ?_
  rintro e w' ⟨rfl, rfl⟩
  gi_wp2_with fail
  refine ⟨trivial, ?_⟩
  refine (backInts_in Fence.wide (n - 1) trivial hro _ _ _ _).mono ?_
  rintro e w' ⟨rfl, rfl⟩
  gi_wp2_with fail
  have c0 := Boxed.new w 126 (.slice A ws.length cap)
  have c1 := Boxed.new (w.alloc (.cells #[.slice A ws.length cap] 126)) 129 (.int .u64 0)
  have c2 := Boxed.new ((w.alloc (.cells #[.slice A ws.length cap] 126)).alloc (.cells #[.int .u64 0] 129)) 4 (.bool false)
  have c3 := Boxed.new (((w.alloc (.cells #[.slice A ws.length cap] 126)).alloc (.cells #[.int .u64 0] 129)).alloc (.cells #[.bool false] 4)) 129 (.int .u64 0)
  have c4 := Boxed.new ((((w.alloc (.cells #[.slice A ws.length cap] 126)).alloc (.cells #[.int .u64 0] 129)).alloc (.cells #[.bool false] 4)).alloc (.cells #[.int .u64 0] 129)) 126 (.slice A' vs.length cap')
  have hB0 : Below w.heap.size w (((((w.alloc (.cells #[.slice A ws.length cap] 126)).alloc (.cells #[.int .u64 0] 129)).alloc (.cells #[.bool false] 4)).alloc (.cells #[.int .u64 0] 129)).alloc (.cells #[.slice A' vs.length cap'] 126)) :=
    (((((Below.refl _ w).alloc (Nat.le_refl _) _).alloc (by simp) _).alloc (by simp; omega) _).alloc (by simp; omega) _).alloc (by simp; omega) _
  simp only [World.size_alloc] at c1 c2 c3 c4
  have d0 := (((c0.alloc (.cells #[.int .u64 0] 129)).alloc (.cells #[.bool false] 4)).alloc (.cells #[.int .u64 0] 129)).alloc (.cells #[.slice A' vs.length cap'] 126)
  have d1 := ((c1.alloc (.cells #[.bool false] 4)).alloc (.cells #[.int .u64 0] 129)).alloc (.cells #[.slice A' vs.length cap'] 126)
  have d2 := (c2.alloc (.cells #[.int .u64 0] 129)).alloc (.cells #[.slice A' vs.length cap'] 126)
  have d3 := c3.alloc (.cells #[.slice A' vs.length cap'] 126)
  have hsz : (((((w.alloc (.cells #[.slice A ws.length cap] 126)).alloc (.cells #[.int .u64 0] 129)).alloc (.cells #[.bool false] 4)).alloc (.cells #[.int .u64 0] 129)).alloc (.cells #[.slice A' vs.length cap'] 126)).heap.size = w.heap.size + 5 := by simp
  clear c0 c1 c2 c3
  generalize hW0 : ((((w.alloc (.cells #[.slice A ws.length cap] 126)).alloc (.cells #[.int .u64 0] 129)).alloc (.cells #[.bool false] 4)).alloc (.cells #[.int .u64 0] 129)).alloc (.cells #[.slice A' vs.length cap'] 126) = W0 at *
  clear hW0
  refine wpIn_rangeFunc_ownG hro hn1 (gf := 120) (lb := #[.pointer (some ⟨w.heap.size + 1 + 1 + 1 + 1, 0, none⟩)]) rfl trivial (enters_of Tryz.func120 (by kernel_rfl) rfl)
    (backInts_stops Fence.wide (n - 1) trivial hro (by omega) (w.heap.size + 1 + 1 + 1 + 1) w.heap.size cap' A' vs (by omega) W0 (by omega) (by omega) c4.cell (hI'.below hB0 (Nat.le_refl _))) KB.trans (kb_b (by omega) (by omega)) (Below.refl _ _) (fun _ => rfl)
    (fun pre W => (Boxed W w.heap.size 126 (.slice A ws.length cap) ∧ Boxed W (w.heap.size + 1) 129 (.int .u64 0) ∧ Boxed W (w.heap.size + 1 + 1) 4 (.bool false) ∧ Boxed W (w.heap.size + 1 + 1 + 1) 129 (.int .u64 ((pF ws vs (pre.map (·.1)) : Nat) : Int)) ∧ (∀ i ∈ pre, okV (ws[i.1]?.getD 0) (vs[i.1]?.getD 0) = true)) ∧ Below w.heap.size w W)
    (fun c pre W => (c = .ret ∧ Boxed W (w.heap.size + 1) 129 (.int .u64 0) ∧ Boxed W (w.heap.size + 1 + 1) 4 (.bool false) ∧ (∃ i ∈ pre, okV (ws[i.1]?.getD 0) (vs[i.1]?.getD 0) = false)) ∧ Below w.heap.size w W)
    (OwnFrom.and (OwnFrom.and (Own.from (boxed_own _ _ _) _) (OwnFrom.and (Own.from (boxed_own _ _ _) _) (OwnFrom.and (Own.from (boxed_own _ _ _) _) (OwnFrom.and (Own.from (boxed_own _ _ _) _) (ownFrom_pure _ _))))) (ownFrom_below (Nat.le_refl _) (by omega)))
    (fun c => OwnFrom.and (OwnFrom.and (ownFrom_pure _ _) (OwnFrom.and (Own.from (boxed_own _ _ _) _) (OwnFrom.and (Own.from (boxed_own _ _ _) _) (ownFrom_pure _ _)))) (ownFrom_below (Nat.le_refl _) (by omega)))
    ⟨⟨d0, d1, d2, d3, by simp⟩, hB0⟩
    (fun x => { tmps := #[.slice A ws.length cap, .slice A' vs.length cap', .pointer (some ⟨w.heap.size, 0, none⟩), undef, .pointer (some ⟨w.heap.size + 1, 0, none⟩), .pointer (some ⟨w.heap.size + 1 + 1, 0, none⟩), .pointer (some ⟨w.heap.size + 1 + 1 + 1, 0, none⟩), .int .i64 (x.1 : Int), .int .i64 (vs[x.1]?.getD 0),
      .slice A ws.length cap, .int .i64 ws.length, .slice A' vs.length cap', .int .i64 vs.length, .bool false, .bool false, .slice A ws.length cap, .bool true, .bool false, .bool false, .slice A' vs.length cap', .func (.func 120) #[] #[.pointer (some ⟨w.heap.size + 1 + 1 + 1 + 1, 0, none⟩)], .int .i64 (x.1 : Int), .int .i64 (vs[x.1]?.getD 0),
      undef, undef, undef, undef, undef, undef, undef, undef, undef, undef, undef, undef, undef, undef, undef, undef, undef, undef, undef, undef, undef, undef], defers := [] }) ?assign ?body ?done ?stop
  case assign =>
    intro l x W K hK
    generalize vs[x.1]?.getD 0 = z at *
    gi_wp2
    exact hK
  case body =>
    rintro l pre x W ⟨⟨e0, e1, e2, e3, hok⟩, hB⟩ _
    have hix : x.1 < ws.length := by have := HE.out; have := x.2; omega
    obtain ⟨b, off, rfl, hb, hc⟩ := hI (by omega)
    have hcx : W.cell? ⟨b, off + x.1, none⟩ = some (.int .i64 (ws[x.1]?.getD 0)) := (hB.cell (p := ⟨b, off + x.1, none⟩) hb).trans (hc x.1 hix)
    obtain ⟨hx1, hx2⟩ := okW_at ws HO.out x.1 hix
    obtain ⟨hv1, hv2⟩ := i64s_at vs hv x.1
    have hsn := Lib.hid (pF_snoc ws vs pre x)
    have hsw := fun h => pstep_walk (pF ws vs (pre.map (·.1))) (ws[x.1]?.getD 0) (vs[x.1]?.getD 0) h hx2
    have f0 := e0.cell
    have f1 := e1.cell
    have g1 := e1.frozen
    have f2 := e2.cell
    have g2 := e2.frozen
    have f3 := e3.cell
    have g3 := e3.frozen
    have hgood := Lib.hid (fun (h : okV (ws[x.1]?.getD 0) (vs[x.1]?.getD 0) = true) (i : Pl vs.length) (hi : i ∈ pre ++ [x]) => (show okV (ws[i.1]?.getD 0) (vs[i.1]?.getD 0) = true from (List.mem_append.1 hi).elim (hok i) (fun hh => by simp at hh; subst hh; exact h)))
    have hbad := Lib.hid (fun (h : okV (ws[x.1]?.getD 0) (vs[x.1]?.getD 0) = false) => (show ∃ i ∈ pre ++ [x], okV (ws[i.1]?.getD 0) (vs[i.1]?.getD 0) = false from ⟨x, by simp, h⟩))
    generalize ws[x.1]?.getD 0 = y at *
    generalize vs[x.1]?.getD 0 = z at *
    generalize pF ws vs (pre.map (·.1)) = u at *
    clear hc hok
    by_cases hneg : z < 0
    · have hno : okV y z = false := by rw [Bool.eq_false_iff]; intro h; have := ((okV_iff y z).1 h).1; omega
      have hb2 := Lib.hid (hbad.out hno)
      clear hno hbad hgood hsw
      gi_wp2
      refine ⟨trivial, ?_⟩
      gi_wp2
      exact ⟨((KeepsOthers.setCell W _ _).trans (KeepsOthers.setCell _ _ _)).from _, ⟨rfl, (e1.set _).other (by omega) _, (e2.other (by omega) _).set _, hb2.out⟩, (hB.setCell (p := ⟨w.heap.size + 1, 0, none⟩) (by simp) _).setCell (p := ⟨w.heap.size + 1 + 1, 0, none⟩) (by show w.heap.size ≤ w.heap.size + 1 + 1; omega) _⟩
    · have hpos : 0 ≤ z := by omega
      have htw := test_walk y z hpos hv2
      cases hno : okV y z with
      | false =>
        have hb2 := Lib.hid (hbad.out hno)
        rw [hno, Bool.not_false] at htw
        clear hno hbad hgood hsw
        gi_wp2_with fail
        refine ⟨trivial, (fun _ => by omega), ?_⟩
        refine (CallsIn.inRound l (callsIn_wide.2 (mask_any y hx1 hx2 _))).mono ?_
        rintro e w' ⟨rfl, rfl⟩
        gi_wp2
        exact ⟨((KeepsOthers.setCell W _ _).trans (KeepsOthers.setCell _ _ _)).from _, ⟨rfl, (e1.set _).other (by omega) _, (e2.other (by omega) _).set _, hb2.out⟩, (hB.setCell (p := ⟨w.heap.size + 1, 0, none⟩) (by simp) _).setCell (p := ⟨w.heap.size + 1 + 1, 0, none⟩) (by show w.heap.size ≤ w.heap.size + 1 + 1; omega) _⟩
      | true =>
        have hg2 := Lib.hid (hgood.out hno)
        have hsw' := hsw hno
        rw [hno, Bool.not_true] at htw
        clear hno hbad hgood hsw
        gi_wp2_with fail
        refine ⟨trivial, (fun _ => by omega), ?_⟩
        refine (CallsIn.inRound l (callsIn_wide.2 (mask_any y hx1 hx2 _))).mono ?_
        rintro e w' ⟨rfl, rfl⟩
        gi_wp2
        refine region_tail_round 9 (by kernel_rfl) (by kernel_rfl) (NoDefer.of rfl) ?_
        simp only [List.take_succ_cons, List.take_zero, List.drop_succ_cons, List.drop_zero]
        repeat still_step
        try refine wpStill_nil ?_
        change wpListIn _ _ _ _ _ _ _ W.drew
        gi_wp2
        exact ⟨((KeepsOthers.setCell W _ _).trans (KeepsOthers.drew _)).from _, ((KB.refl _ _ W).setCell (p := ⟨w.heap.size + 1 + 1 + 1, 0, none⟩) (by show w.heap.size ≤ w.heap.size + 1 + 1 + 1; omega) (by show w.heap.size + 1 + 1 + 1 + 1 ≠ w.heap.size + 1 + 1 + 1; omega) _).drew, ⟨e0.other (by omega) _, e1.other (by omega) _, e2.other (by omega) _, by rw [hsn.out, ← hsw']; exact e3.set _, hg2.out⟩, (hB.setCell (p := ⟨w.heap.size + 1 + 1 + 1, 0, none⟩) (by show w.heap.size ≤ w.heap.size + 1 + 1 + 1; omega) _).drew⟩
  case done =>
    rintro D ys W hD hys ⟨⟨e0, e1, e2, e3, hok⟩, hB⟩ hK
    have hall : okVs ws vs = true := by
      refine okVs_of ws vs HE.out (fun i hi => ?_)
      have hm : i ∈ downL vs.length vs.length := by
        unfold downL
        rw [List.mem_map]
        exact ⟨vs.length - 1 - i, by simp; omega, by omega⟩
      rw [← hys, List.mem_map] at hm
      obtain ⟨p, hp, rfl⟩ := hm
      exact hok p hp
    rw [hys, pF_down ws vs HO.out hall vs.length (Nat.le_refl _), Nat.sub_self, List.drop_zero, List.drop_zero] at e3
    have HA := Lib.hid hall
    clear hall hys hok
    have f3 := e3.cell
    have f1 := e1.cell
    have g1 := e1.frozen
    have f2 := e2.cell
    have g2 := e2.frozen
    generalize hpk : packN ws vs = pk at *
    have HPK := Lib.hid hpk
    clear hpk
    gi_wp2
    have k1 := (e1.set (.int .u64 (pk : Int))).other (B' := w.heap.size + 1 + 1) (by omega) (.bool true)
    have k2 := (e2.other (B' := w.heap.size + 1) (by omega) (.int .u64 (pk : Int))).set (.bool true)
    have hK1 := (KeepsOthers.setCell W ⟨w.heap.size + 1, 0, none⟩ (.int .u64 (pk : Int))).same D _ hK rfl
    have hK' := (KeepsOthers.setCell _ ⟨w.heap.size + 1 + 1, 0, none⟩ (.bool true)).same D _ hK1 rfl
    refine ⟨by simp, .inl ⟨_, _, rfl, run_takeDeferred hK', ?_⟩⟩
    have q1 := cell_kept k1.cell (grownBy_putObj' _ D (.deferred none)) (fun r e => by cases e; exact ⟨_, hK', rfl⟩)
    have q2 := cell_kept k2.cell (grownBy_putObj' _ D (.deferred none)) (fun r e => by cases e; exact ⟨_, hK', rfl⟩)
    refine ⟨.tuple #[.int .u64 (pk : Int), .bool true], ?_, ⟨by rw [HA.out, if_pos rfl, HPK.out], ((hB.setCell (p := ⟨w.heap.size + 1, 0, none⟩) (by simp) _).setCell (p := ⟨w.heap.size + 1 + 1, 0, none⟩) (by show w.heap.size ≤ w.heap.size + 1 + 1; omega) _).trans (belowK_b (w := w) (Nat.le_refl _) _ D _ _ (by omega) hK' rfl rfl)⟩⟩
    simp [results, Tryz.f101, go_sem, q1, q2]
  case stop =>
    rintro D c pre W hD _ ⟨⟨rfl, e1, e2, hbad⟩, hB⟩ hK
    have hno : okVs ws vs = false := by
      obtain ⟨i, _, hi⟩ := hbad
      rw [Bool.eq_false_iff]
      intro h
      have := okVs_at ws vs h i.1 i.2
      rw [this] at hi; cases hi
    have HN := Lib.hid hno
    clear hno hbad
    gi_wp2
    refine ⟨by simp, .inl ⟨_, _, rfl, run_takeDeferred hK, ?_⟩⟩
    have q1 := cell_kept e1.cell (grownBy_putObj' _ D (.deferred none)) (fun r e => by cases e; exact ⟨_, hK, rfl⟩)
    have q2 := cell_kept e2.cell (grownBy_putObj' _ D (.deferred none)) (fun r e => by cases e; exact ⟨_, hK, rfl⟩)
    refine ⟨.tuple #[.int .u64 0, .bool false], ?_, ⟨by rw [HN.out]; rfl, hB.trans (belowK_b (w := w) (Nat.le_refl _) W D _ _ (by omega) hK rfl rfl)⟩⟩
    simp [results, Tryz.f101, go_sem, q1, q2]
end Go.Proofs.YtdmkkfpbgpijjaaGreat
namespace Go.Proofs.YtdmkkfpbgpijjaaGreat
open Go.RowKit Go.Shelf Go.Deep

theorem okW_short (ws : List Int) (h : okW ws = true) : ws.length ≤ 64 := by
  have h2 := (okW_iff ws).1 h
  have : ∀ l : List Int, (∀ x ∈ l, 1 ≤ x ∧ x ≤ 63) → (l.length : Int) ≤ sumI l := by
    intro l
    induction l with
    | nil => intro _; simp [sumI]
    | cons x l ih => intro hl; have := ih (fun y hy => hl y (by simp [hy])); have := hl x (by simp); simp [sumI]; omega
  have := this ws h2.1
  omega

set_option maxRecDepth 100000 in
set_option maxHeartbeats 2000000 in
theorem pack_len_in (n : Nat) (A A' : Option Addr) (cap cap' l l' : Nat) (he : l ≠ l') (w : World) :
    CallsIn Fence.wide n Tryz.prog 101 #[.slice A l cap, .slice A' l' cap'] w fun e W' => e = .returned (.tuple #[.int .u64 0, .bool false]) ∧ Below w.heap.size w W' := by
  have hro : Fence.wide.round = none := rfl
  have hd : ((l : Int) != (l' : Int)) = true := by simp; omega
  refine callsIn_of_wp_marks Tryz.func101 rfl trivial ?_ hro
  simp only [Tryz.ntmps101, List.size_toArray, List.length_cons, List.length_nil, Nat.reduceAdd, Nat.reduceSub, Array.replicate_succ, Array.replicate_zero, List.push_toArray, List.append_toArray, List.nil_append, List.cons_append]
  gi_wp2_with fail
  refine ⟨trivial, ?_⟩
  gi_wp2
  refine ⟨.tuple #[.int .u64 0, .bool false], ?_, rfl, ?_⟩
  · simp [results, Tryz.f101, go_sem]
  · exact (((((Below.refl _ w).alloc (Nat.le_refl _) _).alloc (by simp) _).alloc (by simp; omega) _))

set_option maxRecDepth 100000 in
set_option maxHeartbeats 2000000 in
theorem pack_bad_in (n : Nat) (hn : 1 ≤ n) (A A' : Option Addr) (cap cap' : Nat) (ws vs : List Int) (ho : okW ws = false) (he : ws.length = vs.length) (hl : ws.length ≤ 17592186044416) (w : World) (hI : Ints .i64 w.heap.size w A ws) :
    CallsIn Fence.wide n Tryz.prog 101 #[.slice A ws.length cap, .slice A' vs.length cap'] w fun e W' => e = .returned (.tuple #[.int .u64 0, .bool false]) ∧ Below w.heap.size w W' := by
  have hro : Fence.wide.round = none := rfl
  have hd : ((ws.length : Int) != (vs.length : Int)) = false := by rw [he]; simp
  clear he
  have HRW := fun W => Lib.hid (fun h => rightWidths_any A ws cap w.heap.size W h hl)
  rw [ho] at HRW
  clear ho
  refine callsIn_of_wp_marks Tryz.func101 rfl trivial ?_ hro
  simp only [Tryz.ntmps101, List.size_toArray, List.length_cons, List.length_nil, Nat.reduceAdd, Nat.reduceSub, Array.replicate_succ, Array.replicate_zero, List.push_toArray, List.append_toArray, List.nil_append, List.cons_append]
  gi_wp2_with fail
  refine ⟨trivial, ?_⟩
  refine (callsIn_wide.2 ((HRW _).out (hI.below (((Below.refl _ w).alloc (Nat.le_refl _) _ |>.alloc (by simp) _).alloc (by simp; omega) _) (Nat.le_refl _)))).mono ?_
  rintro e w' ⟨rfl, rfl⟩
  gi_wp2
  refine ⟨.tuple #[.int .u64 0, .bool false], ?_, rfl, ?_⟩
  · simp [results, Tryz.f101, go_sem]
  · exact (((((Below.refl _ w).alloc (Nat.le_refl _) _).alloc (by simp) _).alloc (by simp; omega) _))

/-- word.Pack, at every two lists. -/
theorem pack_any (A A' : Option Addr) (cap cap' : Nat) (ws vs : List Int) (hv : i64s vs) (hl : ws.length ≤ 17592186044416) (w : World) (hI : Ints .i64 w.heap.size w A ws) (hI' : Ints .i64 w.heap.size w A' vs) :
    Calls Tryz.prog 101 #[.slice A ws.length cap, .slice A' vs.length cap'] w fun e W' => e = .returned (.tuple #[.int .u64 ((if packOK ws vs then packN ws vs else 0 : Nat) : Int), .bool (packOK ws vs)]) ∧ Below w.heap.size w W' := by
  unfold packOK
  by_cases he : ws.length = vs.length
  · cases ho : okW ws with
    | false =>
      refine callsIn_wide.1 ((pack_bad_in 4 (by omega) A A' cap cap' ws vs ho he hl w hI).mono ?_)
      rintro e w' ⟨rfl, hb⟩
      exact ⟨rfl, hb⟩
    | true =>
      have hs := okW_short ws ho
      refine callsIn_wide.1 ((pack_in 4 (by omega) A A' cap cap' ws vs ho hv he (by omega) w hI hI').mono ?_)
      rintro e w' ⟨rfl, hb⟩
      rw [Bool.true_and]
      exact ⟨rfl, hb⟩
  · have hno : okVs ws vs = false := by
      rw [Bool.eq_false_iff]; intro h; exact he (okVs_length ws vs h)
    refine callsIn_wide.1 ((pack_len_in 4 A A' cap cap' ws.length vs.length he w).mono ?_)
    rintro e w' ⟨rfl, hb⟩
    rw [hno, Bool.and_false]
    exact ⟨rfl, hb⟩

end Go.Proofs.YtdmkkfpbgpijjaaGreat
namespace Go.Proofs.YtdmkkfpbgpijjaaGreat
open Go.RowKit Go.Deep Go.Shelf

/-- A word's lowest n bytes. -/
def bytesL (u n : Nat) : List Int := (List.range n).map (fun j => ((byteAt u j : Nat) : Int))
theorem bytesL_length (u n : Nat) : (bytesL u n).length = n := by simp [bytesL]
theorem byteAt_lt (u j : Nat) : byteAt u j < 256 := by unfold byteAt; omega
theorem bytesL_bytes (u n : Nat) : isBytes (bytesL u n) := by
  intro z hz
  simp only [bytesL, List.mem_map] at hz
  obtain ⟨j, _, rfl⟩ := hz
  have := byteAt_lt u j
  omega
theorem bytesL_at (u n j : Nat) (h : j < n) : (bytesL u n)[j]?.getD 0 = ((byteAt u j : Nat) : Int) := by simp [bytesL, h]
theorem byteAt_succ (u j : Nat) : byteAt u (j + 1) = byteAt (u / 256) j := by
  unfold byteAt
  rw [Nat.div_div_eq_div_mul, show (2 : Nat) ^ (8 * (j + 1)) = 256 * 2 ^ (8 * j) by rw [show 8 * (j + 1) = 8 * j + 8 by omega, Nat.pow_add, Nat.mul_comm]]
theorem from_bytes (n : Nat) : ∀ u, u / 2 ^ (8 * n) = 0 → fromN (bytesL u n) = u := by
  induction n with
  | zero => intro u h; simp at h; subst h; rfl
  | succ n ih =>
    intro u h
    have e : bytesL u (n + 1) = ((byteAt u 0 : Nat) : Int) :: bytesL (u / 256) n := by
      unfold bytesL
      rw [List.range_succ_eq_map, List.map_cons, List.map_map]
      congr 1
      apply List.map_congr_left
      intro j _
      simp [byteAt_succ]
    have h2 : u / 256 / 2 ^ (8 * n) = 0 := by
      rw [Nat.div_div_eq_div_mul, show 256 * 2 ^ (8 * n) = (2 : Nat) ^ (8 * (n + 1)) by rw [show 8 * (n + 1) = 8 * n + 8 by omega, Nat.pow_add, Nat.mul_comm]]
      exact h
    rw [e, fromN_cons, ih _ h2]
    have : byteAt u 0 = u % 256 := by simp [byteAt]
    omega
/-- What Bytes answers where there is enough room. -/
theorem bytes_list (u : Nat) (hu : u < 18446744073709551616) (n : Nat) (h : n ≤ 8) (hz : u / 2 ^ (8 * n) = 0) (w : World) :
    Calls Tryz.prog 86 #[.int .u64 u, .int .i64 n] w fun e w' => e = .returned (.slice (some ⟨w.heap.size, 0, none⟩) n n) ∧ Ints .u8 w'.heap.size w' (some ⟨w.heap.size, 0, none⟩) (bytesL u n) ∧ (∀ j, j < n → w'.cell? ⟨w.heap.size, j, none⟩ = some (.int .u8 (byteAt u j))) ∧ w.heap.size < w'.heap.size ∧ Below w.heap.size w w' := by
  refine (bytes_yes u hu n h hz w).mono ?_
  rintro e w' ⟨rfl, hr, hb⟩
  exact ⟨rfl, ints_row hr _ (bytesL_length u n) (fun j hj => by rw [bytesL_at u n j hj]), fun j hj => hr.cell hj, hr.lt, hb⟩

def unpackR : List Int → Nat → List Int
  | [], _ => []
  | x :: ws, u => ((u % 2 ^ x.toNat : Nat) : Int) :: unpackR ws (u / 2 ^ x.toNat)
theorem unpackL_length (ws : List Int) (u : Nat) : (unpackL ws u).length = ws.length := by simp [unpackL]
theorem offN_cons (x : Int) (ws : List Int) (hx : 1 ≤ x) (hw : ∀ y ∈ ws, 1 ≤ y ∧ y ≤ 63) (k : Nat) : offN (x :: ws) (k + 1) = x.toNat + offN ws k := by
  unfold offN
  rw [List.take_succ_cons]
  simp only [sumI]
  have := sumI_pos (ws.take k) (fun y hy => hw y (List.mem_of_mem_take hy))
  omega
theorem unpackL_eq (ws : List Int) (hw : ∀ y ∈ ws, 1 ≤ y ∧ y ≤ 63) : ∀ u, unpackL ws u = unpackR ws u := by
  induction ws with
  | nil => intro u; rfl
  | cons x ws ih =>
    intro u
    have hx := hw x (by simp)
    have hw' : ∀ y ∈ ws, 1 ≤ y ∧ y ≤ 63 := fun y hy => hw y (by simp [hy])
    unfold unpackL unpackR
    rw [← ih hw' (u / 2 ^ x.toNat), List.length_cons, List.range_succ_eq_map, List.map_cons, List.map_map]
    congr 1
    · simp [fieldAt, offN, sumI]
    · unfold unpackL
      apply List.map_congr_left
      intro k _
      simp only [Function.comp, Nat.succ_eq_add_one, fieldAt, List.getElem?_cons_succ]
      rw [offN_cons x ws hx.1 hw' k, Nat.pow_add, Nat.div_div_eq_div_mul]
/-- What Unpack takes. -/
def unpackOK (ws : List Int) (u : Nat) : Bool := okW ws && decide (u / 2 ^ offN ws ws.length = 0)
theorem unpackL_at (ws : List Int) (u j : Nat) (h : j < ws.length) : (unpackL ws u)[j]?.getD 0 = ((fieldAt ws u j : Nat) : Int) := by simp [unpackL, h]

def UnpackYes (ws : List Int) (u : Nat) (w : World) (e : Ending) (w' : World) : Prop :=
  e = .returned (.tuple #[.slice (some ⟨w.heap.size, 0, none⟩) ws.length ws.length, .bool true]) ∧ Ints .i64 w'.heap.size w' (some ⟨w.heap.size, 0, none⟩) (unpackL ws u) ∧ Below w.heap.size w w'

theorem unpack_yes (A : Option Addr) (ws : List Int) (c u : Nat) (hu : u < 18446744073709551616) (w : World) (h : Ints .i64 w.heap.size w A ws) (ho : unpackOK ws u = true) :
    Calls Tryz.prog 117 #[.slice A ws.length c, .int .u64 u] w (UnpackYes ws u w) := by
  simp only [unpackOK, Bool.and_eq_true, decide_eq_true_eq] at ho
  refine (unpack_good A ws c u hu w h (okW_short ws ho.1) ho.1).mono ?_
  rintro e w' (⟨_, rfl, hr, hb⟩ | ⟨hn, _⟩)
  · exact ⟨rfl, ints_row hr _ (unpackL_length ws u) (fun j hj => by rw [unpackL_at ws u j hj]), hb⟩
  · exact absurd ho.2 hn
theorem pack_gives (ws vs : List Int) (hv : i64s vs) (hl : ws.length ≤ 17592186044416) (x : Nat) (b : Bool) (hx : (if packOK ws vs then packN ws vs else 0) = x) (hb : packOK ws vs = b) (A A' : Option Addr) (cap cap' l l' : Nat) (hll : ws.length = l) (hll' : vs.length = l') (w : World) (hI : Ints .i64 w.heap.size w A ws) (hI' : Ints .i64 w.heap.size w A' vs) :
    Calls Tryz.prog 101 #[.slice A l cap, .slice A' l' cap'] w fun e W' => e = .returned (.tuple #[.int .u64 x, .bool b]) ∧ Below w.heap.size w W' := by
  subst hx hb hll hll'
  exact pack_any A A' cap cap' ws vs hv hl w hI hI'
theorem zig_nonneg (n : Int) : 0 ≤ zigI n := by unfold zigI; split <;> omega
theorem zig_lt (n : Int) (h1 : -9223372036854775808 ≤ n) (h2 : n ≤ 9223372036854775807) : zigI n < 18446744073709551616 := by unfold zigI; split <;> omega
theorem zag_bounds (u : Nat) (h : u < 18446744073709551616) : -9223372036854775808 ≤ zagI u ∧ zagI u < 9223372036854775808 := by unfold zagI; split <;> omega
end Go.Proofs.YtdmkkfpbgpijjaaGreat

/- Layer 1 for the stages above it: word.Pack at every two lists; the numbers that the document fixes ('alive'). -/
import Derived.Test.YtlohogcddelekaaVf
namespace Go.Proofs.Ytlohogcddelekaa
open Go.RowKit Go.Shelf Go.Deep

theorem okW_short (ws : List Int) (h : okW ws = true) : ws.length ≤ 64 := by
  have h2 := (okW_iff ws).1 h
  have : ∀ l : List Int, (∀ x ∈ l, 1 ≤ x ∧ x ≤ 63) → (l.length : Int) ≤ sumI l := by
    intro l
    induction l with
    | nil => intro _; simp [sumI]
    | cons x l ih => intro hl; have := ih (fun y hy => hl y (by simp [hy])); have := hl x (by simp); simp [sumI]; omega
  have := this ws h2.1
  omega

set_option maxRecDepth 100000 in
set_option maxHeartbeats 2000000 in
theorem pack_len_in (n : Nat) (A A' : Option Addr) (cap cap' l l' : Nat) (he : l ≠ l') (w : World) :
    CallsIn Fence.wide n Try.prog 39 #[.slice A l cap, .slice A' l' cap'] w fun e W' => e = .returned (.tuple #[.int .u64 0, .bool false]) ∧ Below w.heap.size w W' := by
  have hro : Fence.wide.round = none := rfl
  have hd : ((l : Int) != (l' : Int)) = true := by simp; omega
  refine callsIn_of_wp_marks Try.func39 rfl trivial ?_ hro
  simp only [Try.ntmps39, List.size_toArray, List.length_cons, List.length_nil, Nat.reduceAdd, Nat.reduceSub, Array.replicate_succ, Array.replicate_zero, List.push_toArray, List.append_toArray, List.nil_append, List.cons_append]
  gi_wp2_with fail
  refine ⟨trivial, ?_⟩
  gi_wp2
  refine ⟨.tuple #[.int .u64 0, .bool false], ?_, rfl, ?_⟩
  · simp [results, Try.f39, go_sem]
  · exact (((((Below.refl _ w).alloc (Nat.le_refl _) _).alloc (by simp) _).alloc (by simp; omega) _))

set_option maxRecDepth 100000 in
set_option maxHeartbeats 2000000 in
theorem pack_bad_in (n : Nat) (hn : 1 ≤ n) (A A' : Option Addr) (cap cap' : Nat) (ws vs : List Int) (ho : okW ws = false) (he : ws.length = vs.length) (hl : ws.length ≤ 17592186044416) (w : World) (hI : Ints .i64 w.heap.size w A ws) :
    CallsIn Fence.wide n Try.prog 39 #[.slice A ws.length cap, .slice A' vs.length cap'] w fun e W' => e = .returned (.tuple #[.int .u64 0, .bool false]) ∧ Below w.heap.size w W' := by
  have hro : Fence.wide.round = none := rfl
  have hd : ((ws.length : Int) != (vs.length : Int)) = false := by rw [he]; simp
  clear he
  have HRW := fun W => Lib.hid (fun h => rightWidths_any A ws cap w.heap.size W h hl)
  rw [ho] at HRW
  clear ho
  refine callsIn_of_wp_marks Try.func39 rfl trivial ?_ hro
  simp only [Try.ntmps39, List.size_toArray, List.length_cons, List.length_nil, Nat.reduceAdd, Nat.reduceSub, Array.replicate_succ, Array.replicate_zero, List.push_toArray, List.append_toArray, List.nil_append, List.cons_append]
  gi_wp2_with fail
  refine ⟨trivial, ?_⟩
  refine (callsIn_wide.2 ((HRW _).out (hI.below (((Below.refl _ w).alloc (Nat.le_refl _) _ |>.alloc (by simp) _).alloc (by simp; omega) _) (Nat.le_refl _)))).mono ?_
  rintro e w' ⟨rfl, rfl⟩
  gi_wp2
  refine ⟨.tuple #[.int .u64 0, .bool false], ?_, rfl, ?_⟩
  · simp [results, Try.f39, go_sem]
  · exact (((((Below.refl _ w).alloc (Nat.le_refl _) _).alloc (by simp) _).alloc (by simp; omega) _))

/-- word.Pack, at every two lists. -/
theorem pack_any (A A' : Option Addr) (cap cap' : Nat) (ws vs : List Int) (hv : i64s vs) (hl : ws.length ≤ 17592186044416) (w : World) (hI : Ints .i64 w.heap.size w A ws) (hI' : Ints .i64 w.heap.size w A' vs) :
    Calls Try.prog 39 #[.slice A ws.length cap, .slice A' vs.length cap'] w fun e W' => e = .returned (.tuple #[.int .u64 ((if packOK ws vs then packN ws vs else 0 : Nat) : Int), .bool (packOK ws vs)]) ∧ Below w.heap.size w W' := by
  unfold packOK
  by_cases he : ws.length = vs.length
  · cases ho : okW ws with
    | false =>
      refine callsIn_wide.1 ((pack_bad_in 4 (by omega) A A' cap cap' ws vs ho he hl w hI).mono ?_)
      rintro e w' ⟨rfl, hb⟩
      exact ⟨rfl, hb⟩
    | true =>
      have hs := okW_short ws ho
      refine callsIn_wide.1 ((pack_in 4 (by omega) A A' cap cap' ws vs ho hv he (by omega) w hI hI').mono ?_)
      rintro e w' ⟨rfl, hb⟩
      rw [Bool.true_and]
      exact ⟨rfl, hb⟩
  · have hno : okVs ws vs = false := by
      rw [Bool.eq_false_iff]; intro h; exact he (okVs_length ws vs h)
    refine callsIn_wide.1 ((pack_len_in 4 A A' cap cap' ws.length vs.length he w).mono ?_)
    rintro e w' ⟨rfl, hb⟩
    rw [hno, Bool.and_false]
    exact ⟨rfl, hb⟩

end Go.Proofs.Ytlohogcddelekaa

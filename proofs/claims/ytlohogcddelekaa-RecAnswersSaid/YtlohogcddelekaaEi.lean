/- bytes.HasPrefix; numbers of the first bytes (rec.unpacked); a value of bytes (rec.readVal). -/
import Derived.Test.YtlohogcddelekaaEh
import Derived.Test.YtlohogcddelekaaGd
namespace Go.Proofs.Ytlohogcddelekaa
open Go.RowKit Go.Deep
set_option linter.unusedVariables false

set_option maxHeartbeats 1000000 in
theorem hasPrefix_no (A A' : Option Addr) (l l' c c' : Nat) (hl : l < l') (w : World) :
    Calls Try.prog 23 #[.slice A l c, .slice A' l' c'] w fun e w' => e = .returned (.bool false) ∧ w = w' := by
  have hd : decide ((l' : Int) ≤ (l : Int)) = false := by simp; omega
  have hd2 : decide (l' ≤ l) = false := by simp; omega
  go_enter Try.func23, Try.ntmps23
  go_wp2
  go_ret
  exact ⟨rfl, rfl⟩
set_option maxHeartbeats 1000000 in
theorem hasPrefix_yes (A A' : Option Addr) (xs ys : List Int) (l l' c c' : Nat) (o : Bool) (hll : xs.length = l) (hll' : ys.length = l') (hx : isBytes xs) (hy : isBytes ys) (hl : l' ≤ l) (h0 : 0 < l') (ho : (xs.take l' == ys) = o) (w : World) (g : Good A c xs w) (g' : Good A' c' ys w) :
    Calls Try.prog 23 #[.slice A l c, .slice A' l' c'] w fun e w' => e = .returned (.bool o) ∧ w = w' := by
  have hlt : (xs.take l').length = l' := by rw [List.length_take]; omega
  obtain ⟨b, off, rfl⟩ := g.some (by omega)
  have c1 := equal_any (some ⟨b, off, none⟩) A' (xs.take l') ys c c' l' l' o hlt hll' (hx.take l') hy ho w (g.take l') g'
  have hlc : l ≤ c := by have := g.2.1; omega
  have hlc' : l' ≤ c := by omega
  clear hlt g g' ho hx hy
  go_enter Try.func23, Try.ntmps23
  go_wp2_with fail
  refine c1.mono ?_
  rintro e w' ⟨rfl, rfl⟩
  go_wp2
  go_ret
  exact ⟨rfl, rfl⟩
/-- bytes.HasPrefix, where what is looked for has bytes. -/
theorem hasPrefix_any (A A' : Option Addr) (xs ys : List Int) (l l' c c' : Nat) (o : Bool) (hll : xs.length = l) (hll' : ys.length = l') (hx : isBytes xs) (hy : isBytes ys) (h0 : 0 < l') (ho : hasP xs ys = o) (w : World) (g : Good A c xs w) (g' : Good A' c' ys w) :
    Calls Try.prog 23 #[.slice A l c, .slice A' l' c'] w fun e w' => e = .returned (.bool o) ∧ w = w' := by
  by_cases hl : l' ≤ l
  · refine hasPrefix_yes A A' xs ys l l' c c' o hll hll' hx hy hl h0 ?_ w g g'
    rw [← ho]
    simp only [hasP, hll, hll', decide_eq_true hl, Bool.true_and]
  · have e : hasP xs ys = false := by simp only [hasP, hll, hll', decide_eq_false hl, Bool.false_and]
    rw [e] at ho
    subst ho
    exact hasPrefix_no A A' l l' c c' (by omega) w

def UnpSays (b off l c n k : Nat) (vs : List Int) (w : World) (e : Ending) (w' : World) : Prop :=
  ∃ d, e = .returned (.tuple #[.slice (some ⟨d, 0, none⟩) k k, .slice (some ⟨b, off + n, none⟩) (l - n) (c - n)]) ∧ Ints .i64 w'.heap.size w' (some ⟨d, 0, none⟩) vs ∧ w.heap.size ≤ d ∧ d < w'.heap.size ∧ Below w.heap.size w w'
set_option maxHeartbeats 1000000 in
theorem unpacked_any (b off l c n k c2 u : Nat) (zs ws : List Int) (A2 : Option Addr) (hl : zs.length = l) (hn : n ≤ l) (hnc : n < c) (hn8 : n ≤ 8) (hz : isBytes zs) (hk : ws.length = k) (hk0 : 0 < k) (hu : fromN (zs.take n) = u) (ho : unpackOK ws u = true) (w : World) (g : Good (some ⟨b, off, none⟩) c zs w) (hI : Ints .i64 w.heap.size w A2 ws) :
    Calls Try.prog 33 #[.slice (some ⟨b, off, none⟩) l c, .int .i64 n, .slice A2 k c2] w (UnpSays b off l c n k (unpackL ws u) w) := by
  have hlt : (zs.take n).length = n := by rw [List.length_take]; omega
  have c1 := from_yes (some ⟨b, off, none⟩) c (zs.take n) (hz.take n) (by omega) w (g.1.take n)
  rw [hu, hlt] at c1
  have hu2 : u < 18446744073709551616 := by rw [← hu]; exact fromN_8 zs hz n hn8
  have c2' := fun W h => unpack_yes A2 ws c2 u hu2 W h ho
  rw [hk] at c2'
  unfold UnpackYes at c2'
  rw [hk] at c2'
  have hlc : l ≤ c := by have := g.2.1; omega
  have i0 : (0 : Int) ≤ (n : Int) := by omega
  have i1 : (n : Int) ≤ (l : Int) := by omega
  have i2 : ¬ c = n := by omega
  have i3 : n ≤ c := by omega
  have HI := fun W h => Lib.hid ((hI.below (B' := w.heap.size) (w' := W) h (Nat.le_refl _)).more h.size)
  have HV := Lib.hid ((unpackL_length ws u).trans hk)
  generalize unpackL ws u = vs at *
  clear hlt g hu ho hz hl hk hu2 hI
  go_enter Try.func33, Try.ntmps33
  go_wp2_with fail
  refine c1.mono ?_
  rintro e w1 ⟨rfl, b1⟩
  go_wp2_with fail
  refine (c2' _ (HI _ b1).out).mono ?_
  rintro e w2 ⟨rfl, i, b2⟩
  have hd2 : w1.heap.size < w2.heap.size := by
    obtain ⟨b', off', e, hlt, _⟩ := i (by rw [HV.out]; exact hk0)
    cases e
    exact hlt
  clear c1 c2' HI
  go_wp2_with fail
  go_quiet (fail)
  go_wp2
  go_ret2
  exact ⟨w1.heap.size, rfl, i, b1.size, hd2, below_drewN (below_more b1 b2 (Nat.le_refl _)) _⟩
end Go.Proofs.Ytlohogcddelekaa

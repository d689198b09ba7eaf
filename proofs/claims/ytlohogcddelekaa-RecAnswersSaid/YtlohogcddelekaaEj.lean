/- rec.readVal: a value, and the bytes behind its own. -/
import Derived.Test.YtlohogcddelekaaEi
namespace Go.Proofs.Ytlohogcddelekaa
open Go.RowKit Go.Deep
set_option linter.unusedVariables false

def RvSays (t : Bool) (n : Int) (A0 : Option Addr) (c0 : Nat) (zs0 zs : List Int) (w : World) (e : Ending) (w' : World) : Prop :=
  ∃ A c, e = .returned (.tuple #[.agg #[.bool t, .int .i64 n], .slice A zs.length c]) ∧ (∀ W, Good A0 c0 zs0 W → Good A c zs W) ∧ Below w.heap.size w w'
theorem below_store2 {w W0 w1 : World} (h0 : Below w.heap.size w W0) (h1 : Below w.heap.size W0 w1) (v v' : Value) : Below w.heap.size w ((w1.setCell ⟨w.heap.size, 0, none⟩ v).setCell ⟨w.heap.size, 1, none⟩ v').drew :=
  (((h0.trans h1).setCell (p := ⟨w.heap.size, 0, none⟩) (Nat.le_refl _) v).setCell (p := ⟨w.heap.size, 1, none⟩) (Nat.le_refl _) v').drew
set_option maxHeartbeats 1000000 in
theorem readVal_no (A : Option Addr) (l c : Nat) (k : Int) (zs : List Int) (hl : zs.length = l) (w : World) (g : Good A c zs w) :
    Calls Try.prog 47 #[.slice A l c, .int .i64 0, .int .i64 k] w (RvSays false 0 A c zs zs w) := by
  have hb := Lib.hid hl
  clear g hl
  go_enter Try.func47, Try.ntmps47
  go_wp2
  refine bodyPost_ret (v := .tuple #[.agg #[.bool false, .int .i64 0], .slice A l c]) (by simp [results, Try.results47, go_sem]) rfl ?_
  exact ⟨A, c, by rw [hb.out], fun _ h => h, (Below.refl _ _).alloc (Nat.le_refl _) _⟩
set_option maxHeartbeats 1000000 in
theorem readVal_yes (b off l c k q : Nat) (z : Int) (zs : List Int) (hl : zs.length = l) (hk : k + 1 ≤ l) (hk8 : k ≤ 7) (hz : isBytes zs) (hq : fromN (zs.take (k + 1)) = q) (hzg : zagI q = z) (w : World) (g : Good (some ⟨b, off, none⟩) c zs w) :
    Calls Try.prog 47 #[.slice (some ⟨b, off, none⟩) l c, .int .i64 1, .int .i64 k] w (RvSays true z (some ⟨b, off, none⟩) c zs (zs.drop (k + 1)) w) := by
  obtain ⟨W0, hW0⟩ : ∃ W0, W0 = w.alloc (.cells #[.bool false, .int .i64 0] 30) := ⟨_, rfl⟩
  have hs0 : W0.heap.size = w.heap.size + 1 := by rw [hW0]; simp
  have hw0 : Below w.heap.size w W0 := by rw [hW0]; exact (Below.refl _ _).alloc (Nat.le_refl _) _
  have a0 : W0.cell? ⟨w.heap.size, 0, none⟩ = some (.bool false) := by rw [hW0]; simp [go_sem]
  have a1 : W0.cell? ⟨w.heap.size, 1, none⟩ = some (.int .i64 0) := by rw [hW0]; simp [go_sem]
  have f0 : W0.frozen? ⟨w.heap.size, 0, none⟩ = false := by rw [hW0]; simp [go_sem]
  have f1 : W0.frozen? ⟨w.heap.size, 1, none⟩ = false := by rw [hW0]; simp [go_sem]
  have hlt : (zs.take (k + 1)).length = k + 1 := by rw [List.length_take]; omega
  have c1 := fun W h => from_yes (some ⟨b, off, none⟩) c (zs.take (k + 1)) (hz.take _) (by omega) W h
  rw [hq, hlt] at c1
  have hu : q < 18446744073709551616 := by rw [← hq]; exact fromN_8 zs hz (k + 1) (by omega)
  have c2 := fun W => zag_any q hu W
  rw [hzg] at c2
  have gW := g.below hw0
  have hlc : l ≤ c := by have := g.2.1; omega
  have i0 : (0 : Int) ≤ (k : Int) + 1 := by omega
  have i1 : (k : Int) + 1 ≤ (l : Int) := by omega
  have i3 : (k : Int) + 1 ≤ (c : Int) := by omega
  have it : ((k : Int) + 1).toNat = k + 1 := by omega
  have hc1 := Lib.hid (c1 W0 (gW.1.take _))
  clear c1 hq hzg hlt g
  have H := Lib.hid hl
  have HZ := Lib.hid hz
  clear hl hz
  go_enter Try.func47, Try.ntmps47
  go_wp2_with fail
  rw [← hW0]
  refine hc1.out.mono ?_
  rintro e w1 ⟨rfl, b1⟩
  have q0 : w1.cell? ⟨w.heap.size, 0, none⟩ = some (.bool false) := (b1.cell (p := ⟨w.heap.size, 0, none⟩) (by show w.heap.size < _; omega)).trans a0
  have q1 : w1.cell? ⟨w.heap.size, 1, none⟩ = some (.int .i64 0) := (b1.cell (p := ⟨w.heap.size, 1, none⟩) (by show w.heap.size < _; omega)).trans a1
  have p0 : w1.frozen? ⟨w.heap.size, 0, none⟩ = false := (b1.frozen (p := ⟨w.heap.size, 0, none⟩) (by show w.heap.size < _; omega)).trans f0
  have p1 : w1.frozen? ⟨w.heap.size, 1, none⟩ = false := (b1.frozen (p := ⟨w.heap.size, 1, none⟩) (by show w.heap.size < _; omega)).trans f1
  clear hW0 hc1 a0 a1 f0 f1 gW
  by_cases hcase : c = k + 1
  · have hc2 := Lib.hid hcase; obtain rfl := hcase
    go_wp2_with fail
    go_region_held3 (fun _ => True) (exact trivial) ((go_at_call 54; (with_reducible refine (c2 _).mono ?_); rintro e w' ⟨rfl, rfl⟩))
    clear i0 i1 i3 it c2
    go_wp2
    refine bodyPost_ret (v := .tuple #[.agg #[.bool true, .int .i64 z], .slice (some ⟨b, off, none⟩) 0 0]) ?_ rfl ?_
    · simp [results, Try.results47, go_sem, q0, q1]
    · have e0 : zs.drop (k + 1) = [] := List.drop_of_length_le (by rw [H.out]; omega)
      rw [e0]
      exact ⟨some ⟨b, off, none⟩, 0, rfl, fun _ _ => ⟨Ints.nil, by simp, fun e => by cases e⟩, below_store2 hw0 (b1.mono (by omega)) _ _⟩
  · have i2 := hcase
    go_wp2_with fail
    go_region_held3 (fun _ => True) (exact trivial) ((go_at_call 54; (with_reducible refine (c2 _).mono ?_); rintro e w' ⟨rfl, rfl⟩))
    clear i0 i1 i3 it c2
    go_wp2
    refine bodyPost_ret (v := .tuple #[.agg #[.bool true, .int .i64 z], .slice (some ⟨b, off + (k + 1), none⟩) (l - (k + 1)) (c - (k + 1))]) ?_ rfl ?_
    · simp [results, Try.results47, go_sem, q0, q1]
    · exact ⟨some ⟨b, off + (k + 1), none⟩, c - (k + 1), by rw [List.length_drop, H.out], fun _ h => h.drop (k + 1) (by rw [H.out]; omega), below_store2 hw0 (b1.mono (by omega)) _ _⟩
/-- rec.readVal, where there are bytes enough. -/
theorem readVal_any (b off l c f k : Nat) (zs : List Int) (hl : zs.length = l) (hf : f ≤ 1) (hk : f = 1 → k + 1 ≤ l) (hk8 : k ≤ 7) (hz : isBytes zs) (w : World) (g : Good (some ⟨b, off, none⟩) c zs w) :
    Calls Try.prog 47 #[.slice (some ⟨b, off, none⟩) l c, .int .i64 f, .int .i64 k] w (RvSays (rdT f) (rdN zs f k) (some ⟨b, off, none⟩) c zs (rdR zs f k) w) := by
  have h01 : f = 0 ∨ f = 1 := by omega
  rcases h01 with rfl | rfl
  · exact readVal_no _ l c k zs hl w g
  · exact readVal_yes b off l c k _ _ zs hl (hk rfl) hk8 hz rfl rfl w g
end Go.Proofs.Ytlohogcddelekaa

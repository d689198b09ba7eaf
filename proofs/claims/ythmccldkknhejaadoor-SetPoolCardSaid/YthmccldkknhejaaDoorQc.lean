/- The document's own List, decimal, Show (concordatref06); lists copied and compared. -/
import Derived.Test.YthmccldkknhejaaDoorQb
import Derived.Laws.BytesArg
namespace Go.Proofs.YthmccldkknhejaaDoor
open Go.RowKit Go.Deep
set_option linter.unusedVariables false

/-- A set's categories below a place. -/
def catsTo (s k : Nat) : List Nat := (List.range k).filter fun i => s.testBit i
theorem catsTo_succ (s k : Nat) : catsTo s (k + 1) = if s.testBit k then catsTo s k ++ [k] else catsTo s k := by
  unfold catsTo
  rw [List.range_succ, List.filter_append]
  cases h : s.testBit k <;> simp [h]
theorem catsTo_len (s k : Nat) : (catsTo s k).length ≤ k := by
  have := List.length_filter_le (fun i => s.testBit i) (List.range k)
  simpa [catsTo] using this
set_option maxRecDepth 100000 in
set_option maxHeartbeats 1000000 in
theorem ref_list (s : Nat) (hs : s < 18446744073709551616) (w : World) : Calls Tryd.prog 17 #[.int .u64 s] w (GivesI (cats s) w) := by
  obtain ⟨i0, hi, hz0, hz1, hz2⟩ := info_parts infoInt
  have hlit : (w.alloc (.cells #[] 3)).ownsRow w.heap.size 3 1 (.slice (some ⟨w.heap.size, 0, none⟩) 0 0) 0 [] := World.ownsRow_lit w #[] 0 (Nat.le_refl _) (by simp) (by simp)
  go_enter Tryd.func17, Tryd.ntmps17
  go_wp2_with fail
  go_loopw [3, 4] (fun v i wr => ∃ (vv : Value) (k : Nat) (ps : List Nat), vv = v ∧ k ≤ 64 ∧ i = .int .i64 k ∧ catsTo s k = ps ∧ OwnsI w.heap.size wr vv ps ∧ Below w.heap.size w wr) (fun _ i _ => 64 - (intOf i).toNat)
  case atStart => exact ⟨_, 0, [], rfl, Nat.zero_le _, rfl, rfl, hlit, (Below.refl _ _).alloc (Nat.le_refl _) _⟩
  case round =>
    obtain ⟨v, k, ps, hvv, hk, rfl, hps, hown, hB⟩ := hrel
    subst hvv
    by_cases hlt : k < 64
    · have cH := fun W => ref_has s k _ hs (hasN_nat s k hlt) W
      have hstep := catsTo_succ s k
      have hlen := catsTo_len s k
      rw [hps] at hstep hlen
      have HS := Lib.hid hstep
      clear hstep hps
      cases hb : s.testBit k with
      | false =>
        rw [hb] at cH
        have HB := Lib.hid hb
        clear hb
        go_wp2_with fail
        refine (cH _).mono ?_
        rintro e w' ⟨rfl, rfl⟩
        go_wp2_with fail
        go_roundw
        case rel => exact ⟨_, k + 1, ps, rfl, by omega, by go_num, by rw [HS.out, HB.out]; rfl, hown, hB⟩
        case measure => simp [intOf]; omega
      | true =>
        rw [hb] at cH
        have HB := Lib.hid hb
        clear hb
        go_wp2_with fail
        refine (cH _).mono ?_
        rintro e w' ⟨rfl, rfl⟩
        go_wp2_with (at_builtin; refine wpList_append_own _ rfl _ _ 22 rfl w.heap.size 3 i0 (.int .i64 0) 1 8 Tryd.underlying22 hi hz0 hz1 hz2 rfl (by decide) v ps.length (ps.map natV) rfl (World.ownsRow.alloc hown _) ⟨wr.heap.size, 0, none⟩ 1 1 [natV k] rfl rfl (cell_one_new _ _ _) (by simp [natV, Value.oneCell']) (by simp only [maxLen]; omega) (by omega) (by have := hB.size; simp; omega) ?_; intro v' w1 hown' hgrow _)
        go_roundw
        case rel =>
          refine ⟨v', k + 1, ps ++ [k], rfl, by omega, by go_num, by rw [HS.out, HB.out]; rfl, ?_, (hB.alloc hB.size _).grown hgrow (by have := hB.size; simp; omega) (fun j e => (World.ownsRow.lt hown j e).1)⟩
          unfold OwnsI
          rw [List.length_append, List.map_append]
          exact hown'
        case measure => simp [intOf]; omega
    · obtain rfl : k = 64 := by omega
      have HP := Lib.hid hps
      clear hps
      go_wp2_with fail
      go_ret
      exact ⟨v, rfl, by rw [show cats s = ps from HP.out]; exact hown, hB⟩

def intsN (zs : List Nat) : List Int := zs.map fun (c : Nat) => (c : Int)
theorem ownsI_ints {B : Nat} {w : World} {v : Value} {zs : List Nat} (h : OwnsI B w v zs) : ∃ A c, v = .slice A zs.length c ∧ Ints .i64 w.heap.size w A (intsN zs) := by
  have h2 : w.ownsRow B 3 1 v zs.length ((intsN zs).map (Value.int .i64)) := by
    unfold intsN; rw [List.map_map]; exact h
  have hl : (intsN zs).length = zs.length := by simp [intsN]
  rw [← hl] at h2
  obtain ⟨A, c, e, hI⟩ := ints_own h2
  rw [hl] at e
  exact ⟨A, c, e, hI⟩

theorem cells_new (w : World) (xs : List Int) (t : TypeId) : ∀ i, i < xs.length → (w.alloc (.cells (xs.map (Value.int .u8)).toArray t)).cell? ⟨w.heap.size, 0 + i, none⟩ = some (.int .u8 (xs.getD i 0)) := by
  intro i hi
  have h := World.alloc_heap_new w (.cells (xs.map (Value.int .u8)).toArray t)
  unfold World.cell?
  simp only [h]
  simp [hi]
theorem conv_new (w : World) (xs : List Int) (t : ByteArray) (l : Nat) (hl : xs.length = l) (ht : strB (xs.map fun n => UInt8.ofNat n.toNat) = t) :
    (convert 76 9 (.slice (some ⟨w.heap.size, 0, none⟩) l l)).run Tryd.prog (w.alloc (.cells (xs.map (Value.int .u8)).toArray 5)) = .ok (.string t) (w.alloc (.cells (xs.map (Value.int .u8)).toArray 5)) := by
  rw [run_convert_bytes_arg (P := Tryd.prog) _ 76 5 Tryd.underlying76 Tryd.underlying5 w.heap.size 0 l l xs hl (fun i hi => cells_new w xs _ i (by omega)) 9 Tryd.underlying9, ← ht]
  rfl
set_option maxRecDepth 100000 in
set_option maxHeartbeats 1000000 in
theorem ref_dec (n : Nat) (t : ByteArray) (h : n < 64) (ht : strB (decB n) = t) (w : World) : Calls Tryd.prog 42 #[.int .i64 n] w fun e w' => e = .returned (.string t) ∧ Below w.heap.size w w' := by
  by_cases h10 : n < 10
  · have hi : (n : Int) < 10 := by omega
    have hc := conv_new w [48 + (n : Int)] t 1 rfl (by
      rw [← ht]; unfold decB; rw [if_pos h10]
      show strB [UInt8.ofNat (48 + (n : Int)).toNat] = _
      rw [show (48 + (n : Int)).toNat = 48 + n by omega])
    have hc : (convert 76 9 (.slice (some ⟨w.heap.size, 0, none⟩) 1 1)).run Tryd.prog (w.alloc (.cells #[.int .u8 (48 + (n : Int))] 5)) = .ok (.string t) (w.alloc (.cells #[.int .u8 (48 + (n : Int))] 5)) := hc
    clear ht
    go_enter Tryd.func42, Tryd.ntmps42
    go_wp2_with fail
    go_ret
    exact ⟨rfl, (Below.refl _ _).alloc (Nat.le_refl _) _⟩
  · have hi : ¬ (n : Int) < 10 := by omega
    have hc := conv_new w [48 + (n : Int) / 10, 48 + (n : Int) % 10] t 2 rfl (by
      rw [← ht]; unfold decB; rw [if_neg h10]
      show strB [UInt8.ofNat (48 + (n : Int) / 10).toNat, UInt8.ofNat (48 + (n : Int) % 10).toNat] = _
      rw [show (48 + (n : Int) / 10).toNat = 48 + n / 10 by omega, show (48 + (n : Int) % 10).toNat = 48 + n % 10 by omega])
    have hc : (convert 76 9 (.slice (some ⟨w.heap.size, 0, none⟩) 2 2)).run Tryd.prog (w.alloc (.cells #[.int .u8 (48 + (n : Int) / 10), .int .u8 (48 + (n : Int) % 10)] 5)) = .ok (.string t) (w.alloc (.cells #[.int .u8 (48 + (n : Int) / 10), .int .u8 (48 + (n : Int) % 10)] 5)) := hc
    clear ht
    go_enter Tryd.func42, Tryd.ntmps42
    go_wp2_with fail
    go_ret
    exact ⟨rfl, (Below.refl _ _).alloc (Nat.le_refl _) _⟩
end Go.Proofs.YthmccldkknhejaaDoor

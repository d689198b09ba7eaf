/- lock: numbers compared; what the laws need of a table's calls. -/
import Derived.Test.YtnfodidfhnofkaaBw
import Derived.Test.YtnfodidfhnofkaaGa
namespace Go.Proofs.Ytnfodidfhnofkaa
open Go.RowKit Go.Deep Go.Maps Go.Lib

set_option maxHeartbeats 400000 in
theorem sameInts_any (A A' : Option Addr) (xs ys : List Int) (c c' B : Nat) (w : World) (h : Ints .i64 B w A xs) (h' : Ints .i64 B w A' ys) (hl : xs.length ≤ 17592186044416) (hl' : ys.length ≤ 17592186044416) :
    Calls Try.prog 28 #[.slice A xs.length c, .slice A' ys.length c'] w fun e w' => e = .returned (.bool (xs == ys)) ∧ Dr w w' := by
  by_cases hlen : xs.length = ys.length
  · have hne : ((xs.length : Int) != (ys.length : Int)) = false := by simp [hlen]
    have HL := Lib.hid hlen
    clear hlen
    go_enter Try.func28, Try.ntmps28
    go_wp2
    go_loopw [5] (fun i wr => ∃ k : Nat, k ≤ xs.length ∧ i = .int .i64 k ∧ xs.take k = ys.take k ∧ Dr w wr) (fun i _ => xs.length - (intOf i).toNat)
    case atStart => exact ⟨0, Nat.zero_le _, rfl, by simp, Dr.refl w⟩
    case round =>
      obtain ⟨k, hk, rfl, hs, n, rfl⟩ := hrel
      have HS := Lib.hid hs
      clear hs
      by_cases hlt : k < xs.length
      · have hlt' : k < ys.length := by have := HL.out; omega
        obtain ⟨b, off, rfl, hb, hc⟩ := h (by omega)
        obtain ⟨b', off', rfl, hb', hc'⟩ := h' (by omega)
        have hck : w.cell? ⟨b, off + k, none⟩ = some (.int .i64 (xs[k]?.getD 0)) := hc k hlt
        have hck' : w.cell? ⟨b', off' + k, none⟩ = some (.int .i64 (ys[k]?.getD 0)) := hc' k hlt'
        clear hc hc'
        have hsame := Lib.hid (fun e => same_snoc xs ys k HS.out hlt hlt' e)
        have hbad := Lib.hid (same_bad xs ys k)
        generalize xs[k]?.getD 0 = x at *
        generalize ys[k]?.getD 0 = y at *
        by_cases he : x = y
        · have het : (x != y) = false := by simp [he]
          have HE := Lib.hid he
          clear he
          go_wp2
          go_quiet (fail)
          go_wp2
          go_roundw
          case rel => exact ⟨k + 1, by omega, by go_num, hsame.out HE.out, Dr.of _⟩
          case measure => simp [intOf]; omega
        · have het : (x != y) = true := by simp [he]
          have HE := Lib.hid he
          clear he
          go_wp2
          go_quiet (fail)
          go_wp2
          go_ret
          exact ⟨by rw [hbad.out HE.out]; rfl, Dr.of2 _ _⟩
      · obtain rfl : k = xs.length := by omega
        go_wp2
        go_ret
        have e : xs = ys := by have := HS.out; rw [HL.out] at this; rw [List.take_length] at this; rw [← this, ← HL.out, List.take_length]
        exact ⟨by rw [e]; simp, Dr.of _⟩
  · have hne : ((xs.length : Int) != (ys.length : Int)) = true := by simp; omega
    have HL := Lib.hid hlen
    clear hlen
    go_enter Try.func28, Try.ntmps28
    go_wp2
    go_ret
    have e : (xs == ys) = false := by simp only [beq_eq_false_iff_ne]; rintro rfl; exact HL.out rfl
    exact ⟨by rw [e]; rfl, Dr.refl _⟩
/-- A slice of numbers of a call's own, as SameInts reads it. -/
theorem IntsAt.ints {w : World} {base : Nat} {v : Value} {l : List Int} (h : IntsAt w base v l) : ∃ A c, v = .slice A l.length c ∧ Ints .i64 w.heap.size w A l := ints_own h
end Go.Proofs.Ytnfodidfhnofkaa

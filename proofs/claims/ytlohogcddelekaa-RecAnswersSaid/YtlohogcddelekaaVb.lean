/- Layer 1 for the stages above it: are widths right? -/
import Derived.Test.YtlohogcddelekaaVa
import Derived.Deep.QuietTactic
import Derived.BigQuiet
import Derived.Lib.Hide
namespace Go.Proofs.Ytlohogcddelekaa
open Go.RowKit

/-- Right widths. -/
def sumI : List Int → Int
  | [] => 0
  | x :: xs => x + sumI xs
theorem sumI_append (a b : List Int) : sumI (a ++ b) = sumI a + sumI b := by
  induction a with
  | nil => simp [sumI]
  | cons x a ih => simp [sumI, ih]; omega
def okW (ws : List Int) : Bool := ws.all (fun x => decide (1 ≤ x) && decide (x ≤ 63)) && decide (sumI ws ≤ 64)
theorem sumI_pos (ws : List Int) (h : ∀ x ∈ ws, 1 ≤ x ∧ x ≤ 63) : 0 ≤ sumI ws := by
  induction ws with
  | nil => simp [sumI]
  | cons x a ih => have := ih (fun y hy => h y (by simp [hy])); have := h x (by simp); simp [sumI]; omega
theorem okW_iff (ws : List Int) : okW ws = true ↔ (∀ x ∈ ws, 1 ≤ x ∧ x ≤ 63) ∧ sumI ws ≤ 64 := by
  simp [okW]
theorem okW_bad (ws : List Int) (x : Int) (hx : x ∈ ws) (h : x < 1 ∨ 63 < x) : okW ws = false := by
  rw [Bool.eq_false_iff]; intro e
  have := ((okW_iff ws).1 e).1 x hx
  omega
theorem okW_over (ws : List Int) (k : Nat) (h : 64 < sumI (ws.take k)) : okW ws = false := by
  rw [Bool.eq_false_iff]; intro e
  obtain ⟨h1, h2⟩ := (okW_iff ws).1 e
  have e2 := sumI_append (ws.take k) (ws.drop k)
  rw [List.take_append_drop] at e2
  have := sumI_pos (ws.drop k) (fun x hx => h1 x (List.mem_of_mem_drop hx))
  omega
theorem sum_take (ws : List Int) (k : Nat) (h : k < ws.length) : sumI (ws.take (k + 1)) = sumI (ws.take k) + ws[k]?.getD 0 := by
  rw [List.take_succ_eq_append_getElem h, sumI_append]
  simp [sumI, h]

def RW (ws : List Int) (k : Nat) : Prop := (∀ x ∈ ws.take k, 1 ≤ x ∧ x ≤ 63) ∧ 0 ≤ sumI (ws.take k) ∧ sumI (ws.take k) ≤ 64

theorem rw_step (ws : List Int) (k : Nat) (x : Int) (hlt : k < ws.length) (hx : ws[k]?.getD 0 = x) (h : RW ws k) (h1 : 1 ≤ x ∧ x ≤ 63) (h2 : 0 ≤ sumI (ws.take (k + 1))) (h3 : sumI (ws.take (k + 1)) ≤ 64) : RW ws (k + 1) := by
  refine ⟨?_, h2, h3⟩
  rw [List.take_succ_eq_append_getElem hlt]
  intro y hy
  rcases List.mem_append.1 hy with hy | hy
  · exact h.1 y hy
  · simp [hlt] at hx hy; subst hy; subst hx; exact h1
theorem rw_end (ws : List Int) (h : RW ws ws.length) : okW ws = true := by
  have h1 := h.1; have h3 := h.2.2
  rw [List.take_length] at h1 h3
  exact (okW_iff ws).2 ⟨h1, h3⟩

set_option maxHeartbeats 400000 in
theorem rightWidths_any (A : Option Addr) (ws : List Int) (c B : Nat) (w : World) (h : Ints .i64 B w A ws) (hl : ws.length ≤ 17592186044416) :
    Calls Try.prog 48 #[.slice A ws.length c] w fun e w' => e = .returned (.bool (okW ws)) ∧ w = w' := by
  go_enter Try.func48, Try.ntmps48
  go_wp2
  go_loop [3, 8] (fun s i => ∃ k : Nat, k ≤ ws.length ∧ i = .int .i64 k ∧ s = .int .i64 (sumI (ws.take k)) ∧ RW ws k) (fun _ i => ws.length - (intOf i).toNat)
  case atStart => exact ⟨0, Nat.zero_le _, rfl, rfl, by simp, by simp [sumI], by simp [sumI]⟩
  case round =>
    obtain ⟨k, hk, rfl, rfl, hr⟩ := hrel
    by_cases hlt : k < ws.length
    · obtain ⟨b, off, rfl, hb, hc⟩ := h (by omega)
      have hck := hc k hlt
      have hs1 := hr.2.1
      have hs2 := hr.2.2
      have hst := Lib.hid (sum_take ws k hlt)
      have hm : ws[k]?.getD 0 ∈ ws := by simp [hlt]
      clear hc
      generalize sumI (ws.take k) = s at *
      have hmm := Lib.hid hm
      clear hm
      generalize hx : ws[k]?.getD 0 = x at *
      have hx := Lib.hid hx
      go_wp2
      · go_ret
        exact ⟨by rw [okW_bad ws x hmm.out (by omega)]; rfl, rfl⟩
      · go_ret
        exact ⟨by rw [okW_over ws (k + 1) (by rw [hst.out]; omega)]; rfl, rfl⟩
      · go_round
        case rel => exact ⟨k + 1, by omega, by go_num, by rw [hst.out], rw_step ws k x hlt hx.out hr (by omega) (by rw [hst.out]; omega) (by rw [hst.out]; omega)⟩
        case measure => simp [intOf]; omega
      · go_ret
        exact ⟨by rw [okW_bad ws x hmm.out (by omega)]; rfl, rfl⟩
    · obtain rfl : k = ws.length := by omega
      go_wp2
      go_ret
      exact ⟨by rw [rw_end ws hr]; rfl, rfl⟩

end Go.Proofs.Ytlohogcddelekaa

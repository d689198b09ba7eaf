/- The walks of calls that read slices: are widths right, are two lists the same. -/
import Derived.Test.YtafdaeenjjokiaaDoorWa
import Derived.Deep.QuietTactic
import Derived.BigQuiet
import Derived.Lib.Hide
namespace Go.Proofs.YtafdaeenjjokiaaDoor
open Go.RowKit

/-- A slice at A holds the numbers zs, each of kind k, in a block below B; nil and empty ones too. -/
def Ints (k : IntKind) (B : Nat) (w : World) (A : Option Addr) (zs : List Int) : Prop :=
  0 < zs.length → ∃ b off, A = some ⟨b, off, none⟩ ∧ b < B ∧ ∀ j, j < zs.length → w.cell? ⟨b, off + j, none⟩ = some (.int k (zs[j]?.getD 0))

theorem Ints.below {k : IntKind} {B B' : Nat} {w w' : World} {A : Option Addr} {zs : List Int} (h : Ints k B w A zs) (hb : Below B' w w') (hB : B ≤ B') : Ints k B w' A zs := fun h0 => by
  obtain ⟨b, off, e, hlt, hc⟩ := h h0
  exact ⟨b, off, e, hlt, fun j hj => (hb.cell (p := ⟨b, off + j, none⟩) (by show b < B'; omega)).trans (hc j hj)⟩
theorem Ints.more {k : IntKind} {B B' : Nat} {w : World} {A : Option Addr} {zs : List Int} (h : Ints k B w A zs) (hB : B ≤ B') : Ints k B' w A zs := fun h0 => by
  obtain ⟨b, off, e, hlt, hc⟩ := h h0
  exact ⟨b, off, e, by omega, hc⟩
theorem Ints.drewN {k : IntKind} {B : Nat} {w : World} {A : Option Addr} {zs : List Int} (h : Ints k B w A zs) (n : Nat) : Ints k B (w.drewN n) A zs := h
theorem Ints.nil {k : IntKind} {B : Nat} {w : World} {A : Option Addr} : Ints k B w A [] := fun h => absurd h (by simp)

/-- Right widths. -/
def sumI : List Int → Int
  | [] => 0
  | x :: xs => x + sumI xs
theorem sumI_append (a b : List Int) : sumI (a ++ b) = sumI a + sumI b := by
  induction a with
  | nil => simp [sumI]
  | cons x a ih => simp [sumI, ih]; omega
def okW (ws : List Int) : Bool := ws.all (fun x => decide (1 ≤ x) && decide (x ≤ 63)) && decide (sumI ws ≤ 64)
theorem sumI_pos (ws : List Int) (h : ∀ x ∈ ws, 1 ≤ x ∧ x ≤ 63) : 0 ≤ sumI ws := by
  induction ws with
  | nil => simp [sumI]
  | cons x a ih => have := ih (fun y hy => h y (by simp [hy])); have := h x (by simp); simp [sumI]; omega
theorem okW_iff (ws : List Int) : okW ws = true ↔ (∀ x ∈ ws, 1 ≤ x ∧ x ≤ 63) ∧ sumI ws ≤ 64 := by
  simp [okW]
theorem okW_bad (ws : List Int) (x : Int) (hx : x ∈ ws) (h : x < 1 ∨ 63 < x) : okW ws = false := by
  rw [Bool.eq_false_iff]; intro e
  have := ((okW_iff ws).1 e).1 x hx
  omega
theorem okW_over (ws : List Int) (k : Nat) (h : 64 < sumI (ws.take k)) : okW ws = false := by
  rw [Bool.eq_false_iff]; intro e
  obtain ⟨h1, h2⟩ := (okW_iff ws).1 e
  have e2 := sumI_append (ws.take k) (ws.drop k)
  rw [List.take_append_drop] at e2
  have := sumI_pos (ws.drop k) (fun x hx => h1 x (List.mem_of_mem_drop hx))
  omega
theorem sum_take (ws : List Int) (k : Nat) (h : k < ws.length) : sumI (ws.take (k + 1)) = sumI (ws.take k) + ws[k]?.getD 0 := by
  rw [List.take_succ_eq_append_getElem h, sumI_append]
  simp [sumI, h]

def RW (ws : List Int) (k : Nat) : Prop := (∀ x ∈ ws.take k, 1 ≤ x ∧ x ≤ 63) ∧ 0 ≤ sumI (ws.take k) ∧ sumI (ws.take k) ≤ 64

theorem rw_step (ws : List Int) (k : Nat) (x : Int) (hlt : k < ws.length) (hx : ws[k]?.getD 0 = x) (h : RW ws k) (h1 : 1 ≤ x ∧ x ≤ 63) (h2 : 0 ≤ sumI (ws.take (k + 1))) (h3 : sumI (ws.take (k + 1)) ≤ 64) : RW ws (k + 1) := by
  refine ⟨?_, h2, h3⟩
  rw [List.take_succ_eq_append_getElem hlt]
  intro y hy
  rcases List.mem_append.1 hy with hy | hy
  · exact h.1 y hy
  · simp [hlt] at hx hy; subst hy; subst hx; exact h1
theorem rw_end (ws : List Int) (h : RW ws ws.length) : okW ws = true := by
  have h1 := h.1; have h3 := h.2.2
  rw [List.take_length] at h1 h3
  exact (okW_iff ws).2 ⟨h1, h3⟩

set_option maxHeartbeats 400000 in
theorem rightWidths_any (A : Option Addr) (ws : List Int) (c B : Nat) (w : World) (h : Ints .i64 B w A ws) (hl : ws.length ≤ 17592186044416) :
    Calls Tryd.prog 43 #[.slice A ws.length c] w fun e w' => e = .returned (.bool (okW ws)) ∧ w = w' := by
  go_enter Tryd.func43, Tryd.ntmps43
  go_wp2
  go_loop [3, 8] (fun s i => ∃ k : Nat, k ≤ ws.length ∧ i = .int .i64 k ∧ s = .int .i64 (sumI (ws.take k)) ∧ RW ws k) (fun _ i => ws.length - (intOf i).toNat)
  case atStart => exact ⟨0, Nat.zero_le _, rfl, rfl, by simp, by simp [sumI], by simp [sumI]⟩
  case round =>
    obtain ⟨k, hk, rfl, rfl, hr⟩ := hrel
    by_cases hlt : k < ws.length
    · obtain ⟨b, off, rfl, hb, hc⟩ := h (by omega)
      have hck := hc k hlt
      have hs1 := hr.2.1
      have hs2 := hr.2.2
      have hst := Lib.hid (sum_take ws k hlt)
      have hm : ws[k]?.getD 0 ∈ ws := by simp [hlt]
      clear hc
      generalize sumI (ws.take k) = s at *
      have hmm := Lib.hid hm
      clear hm
      generalize hx : ws[k]?.getD 0 = x at *
      have hx := Lib.hid hx
      go_wp2
      · go_ret
        exact ⟨by rw [okW_bad ws x hmm.out (by omega)]; rfl, rfl⟩
      · go_ret
        exact ⟨by rw [okW_over ws (k + 1) (by rw [hst.out]; omega)]; rfl, rfl⟩
      · go_round
        case rel => exact ⟨k + 1, by omega, by go_num, by rw [hst.out], rw_step ws k x hlt hx.out hr (by omega) (by rw [hst.out]; omega) (by rw [hst.out]; omega)⟩
        case measure => simp [intOf]; omega
      · go_ret
        exact ⟨by rw [okW_bad ws x hmm.out (by omega)]; rfl, rfl⟩
    · obtain rfl : k = ws.length := by omega
      go_wp2
      go_ret
      exact ⟨by rw [rw_end ws hr]; rfl, rfl⟩

/-! ### Are two lists the same? -/
theorem same_snoc (xs ys : List Int) (k : Nat) (h : xs.take k = ys.take k) (hx : k < xs.length) (hy : k < ys.length) (e : xs[k]?.getD 0 = ys[k]?.getD 0) : xs.take (k + 1) = ys.take (k + 1) := by
  rw [List.take_succ_eq_append_getElem hx, List.take_succ_eq_append_getElem hy, h]
  simp [hx, hy] at e
  rw [e]
theorem same_bad (xs ys : List Int) (k : Nat) (e : xs[k]?.getD 0 ≠ ys[k]?.getD 0) : (xs == ys) = false := by
  simp only [beq_eq_false_iff_ne]
  rintro rfl; exact e rfl

/-- Only the order's tape has moved on. -/
def Dr (w w' : World) : Prop := ∃ n, w' = w.drewN n
theorem Dr.refl (w : World) : Dr w w := ⟨0, rfl⟩
theorem Dr.of {w : World} (n : Nat) : Dr w (w.drewN n) := ⟨n, rfl⟩
theorem Dr.of2 {w : World} (n m : Nat) : Dr w ((w.drewN n).drewN m) := ⟨n + m, by rw [World.drewN_drewN]⟩
theorem Dr.below {w w' : World} (h : Dr w w') (B : Nat) (hB : B ≤ w.heap.size) : Below B w w' := by
  obtain ⟨n, rfl⟩ := h
  exact below_drewN ((Below.refl _ w).mono hB) n

set_option maxHeartbeats 400000 in
theorem sameInts_any (A A' : Option Addr) (xs ys : List Int) (c c' B : Nat) (w : World) (h : Ints .i64 B w A xs) (h' : Ints .i64 B w A' ys) (hl : xs.length ≤ 17592186044416) (hl' : ys.length ≤ 17592186044416) :
    Calls Tryd.prog 33 #[.slice A xs.length c, .slice A' ys.length c'] w fun e w' => e = .returned (.bool (xs == ys)) ∧ Dr w w' := by
  by_cases hlen : xs.length = ys.length
  · have hne : ((xs.length : Int) != (ys.length : Int)) = false := by simp [hlen]
    have HL := Lib.hid hlen
    clear hlen
    go_enter Tryd.func33, Tryd.ntmps33
    go_wp2
    go_loopw [5] (fun i wr => ∃ k : Nat, k ≤ xs.length ∧ i = .int .i64 k ∧ xs.take k = ys.take k ∧ Dr w wr) (fun i _ => xs.length - (intOf i).toNat)
    case atStart => exact ⟨0, Nat.zero_le _, rfl, by simp, Dr.refl w⟩
    case round =>
      obtain ⟨k, hk, rfl, hs, n, rfl⟩ := hrel
      have HS := Lib.hid hs
      clear hs
      by_cases hlt : k < xs.length
      · have hlt' : k < ys.length := by have := HL.out; omega
        obtain ⟨b, off, rfl, hb, hc⟩ := h (by omega)
        obtain ⟨b', off', rfl, hb', hc'⟩ := h' (by omega)
        have hck : w.cell? ⟨b, off + k, none⟩ = some (.int .i64 (xs[k]?.getD 0)) := hc k hlt
        have hck' : w.cell? ⟨b', off' + k, none⟩ = some (.int .i64 (ys[k]?.getD 0)) := hc' k hlt'
        clear hc hc'
        have hsame := Lib.hid (fun e => same_snoc xs ys k HS.out hlt hlt' e)
        have hbad := Lib.hid (same_bad xs ys k)
        generalize xs[k]?.getD 0 = x at *
        generalize ys[k]?.getD 0 = y at *
        by_cases he : x = y
        · have het : (x != y) = false := by simp [he]
          have HE := Lib.hid he
          clear he
          go_wp2
          go_quiet (fail)
          go_wp2
          go_roundw
          case rel => exact ⟨k + 1, by omega, by go_num, hsame.out HE.out, Dr.of _⟩
          case measure => simp [intOf]; omega
        · have het : (x != y) = true := by simp [he]
          have HE := Lib.hid he
          clear he
          go_wp2
          go_quiet (fail)
          go_wp2
          go_ret
          exact ⟨by rw [hbad.out HE.out]; rfl, Dr.of2 _ _⟩
      · obtain rfl : k = xs.length := by omega
        go_wp2
        go_ret
        have e : xs = ys := by have := HS.out; rw [HL.out] at this; rw [List.take_length] at this; rw [← this, ← HL.out, List.take_length]
        exact ⟨by rw [e]; simp, Dr.of _⟩
  · have hne : ((xs.length : Int) != (ys.length : Int)) = true := by simp; omega
    have HL := Lib.hid hlen
    clear hlen
    go_enter Tryd.func33, Tryd.ntmps33
    go_wp2
    go_ret
    have e : (xs == ys) = false := by simp only [beq_eq_false_iff_ne]; rintro rfl; exact HL.out rfl
    exact ⟨by rw [e]; rfl, Dr.refl _⟩
set_option maxHeartbeats 400000 in
theorem sameBytes_any (A A' : Option Addr) (xs ys : List Int) (c c' B : Nat) (w : World) (h : Ints .u8 B w A xs) (h' : Ints .u8 B w A' ys) (hl : xs.length ≤ 17592186044416) (hl' : ys.length ≤ 17592186044416) :
    Calls Tryd.prog 34 #[.slice A xs.length c, .slice A' ys.length c'] w fun e w' => e = .returned (.bool (xs == ys)) ∧ Dr w w' := by
  by_cases hlen : xs.length = ys.length
  · have hne : ((xs.length : Int) != (ys.length : Int)) = false := by simp [hlen]
    have HL := Lib.hid hlen
    clear hlen
    go_enter Tryd.func34, Tryd.ntmps34
    go_wp2
    go_loopw [5] (fun i wr => ∃ k : Nat, k ≤ xs.length ∧ i = .int .i64 k ∧ xs.take k = ys.take k ∧ Dr w wr) (fun i _ => xs.length - (intOf i).toNat)
    case atStart => exact ⟨0, Nat.zero_le _, rfl, by simp, Dr.refl w⟩
    case round =>
      obtain ⟨k, hk, rfl, hs, n, rfl⟩ := hrel
      have HS := Lib.hid hs
      clear hs
      by_cases hlt : k < xs.length
      · have hlt' : k < ys.length := by have := HL.out; omega
        obtain ⟨b, off, rfl, hb, hc⟩ := h (by omega)
        obtain ⟨b', off', rfl, hb', hc'⟩ := h' (by omega)
        have hck : w.cell? ⟨b, off + k, none⟩ = some (.int .u8 (xs[k]?.getD 0)) := hc k hlt
        have hck' : w.cell? ⟨b', off' + k, none⟩ = some (.int .u8 (ys[k]?.getD 0)) := hc' k hlt'
        clear hc hc'
        have hsame := Lib.hid (fun e => same_snoc xs ys k HS.out hlt hlt' e)
        have hbad := Lib.hid (same_bad xs ys k)
        generalize xs[k]?.getD 0 = x at *
        generalize ys[k]?.getD 0 = y at *
        by_cases he : x = y
        · have het : (x != y) = false := by simp [he]
          have HE := Lib.hid he
          clear he
          go_wp2
          go_quiet (fail)
          go_wp2
          go_roundw
          case rel => exact ⟨k + 1, by omega, by go_num, hsame.out HE.out, Dr.of _⟩
          case measure => simp [intOf]; omega
        · have het : (x != y) = true := by simp [he]
          have HE := Lib.hid he
          clear he
          go_wp2
          go_quiet (fail)
          go_wp2
          go_ret
          exact ⟨by rw [hbad.out HE.out]; rfl, Dr.of2 _ _⟩
      · obtain rfl : k = xs.length := by omega
        go_wp2
        go_ret
        have e : xs = ys := by have := HS.out; rw [HL.out] at this; rw [List.take_length] at this; rw [← this, ← HL.out, List.take_length]
        exact ⟨by rw [e]; simp, Dr.of _⟩
  · have hne : ((xs.length : Int) != (ys.length : Int)) = true := by simp; omega
    have HL := Lib.hid hlen
    clear hlen
    go_enter Tryd.func34, Tryd.ntmps34
    go_wp2
    go_ret
    have e : (xs == ys) = false := by simp only [beq_eq_false_iff_ne]; rintro rfl; exact HL.out rfl
    exact ⟨by rw [e]; rfl, Dr.refl _⟩
end Go.Proofs.YtafdaeenjjokiaaDoor

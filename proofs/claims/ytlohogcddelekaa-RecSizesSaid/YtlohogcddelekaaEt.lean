/- The walk of the statement RecSizes: it returns true, for every input. -/
import Derived.Test.YtlohogcddelekaaEq
namespace Go.Proofs.Ytlohogcddelekaa
open Go.RowKit Go.Deep
set_option linter.unusedVariables false

def szR (r : RecD) : Nat := if rightB r then (encL r).length else 0
def szN (rs : List RecD) : Nat := (rs.map szR).sum
theorem szN_snoc (rs : List RecD) (r : RecD) : szN (rs ++ [r]) = szN rs + szR r := by simp [szN]
theorem szR_le (r : RecD) : szR r ≤ 24 := by
  unfold szR
  have := encL_bd r
  split <;> omega
theorem szN_le (rs : List RecD) : szN rs ≤ 24 * rs.length := by
  induction rs with
  | nil => simp [szN]
  | cons r rs ih =>
    have := szR_le r
    simp only [szN, List.map_cons, List.sum_cons, List.length_cons] at *
    omega
theorem szN_all (rs : List RecD) (h : rs.all rightB = true) : szN rs = (joinL rs).length := by
  induction rs with
  | nil => rfl
  | cons r rs ih =>
    simp only [List.all_cons, Bool.and_eq_true] at h
    rw [joinL_cons, List.length_append, ← ih h.2]
    simp [szN, szR, h.1]
theorem all_snoc (rs : List RecD) (r : RecD) : (rs ++ [r]).all rightB = (rs.all rightB && rightB r) := by simp
set_option maxRecDepth 100000 in
set_option maxHeartbeats 1000000 in
theorem recSizes_long (A : Option Addr) (l c : Nat) (h : 60 < l) (m : l ≤ 9223372036854775807) (w : World) :
    Calls Try.prog 6 #[.slice A l c] w fun e w' => e = .returned (.bool true) ∧ Below w.heap.size w w' := by
  have c0 : ∀ W, Calls Try.prog 8 #[] W fun e w' => e = .returned (.bool true) ∧ Below W.heap.size W w' := fun W => alive_any W
  have hd : decide ((60 : Int) < (l : Int)) = true := by simp; omega
  go_enter Try.func6, Try.ntmps6
  go_wp2_with fail
  (with_reducible refine (c0 _).mono ?_)
  rintro e w1 ⟨rfl, k1⟩
  go_wp2
  go_ret
  exact ⟨rfl, k1⟩
set_option maxRecDepth 100000 in
set_option maxHeartbeats 4000000 in
theorem recSizes_in (A : Option Addr) (l c : Nat) (rs : List RecD) (hl : rs.length = l) (h60 : l ≤ 60) (ok : ∀ r ∈ rs, okR r) (w : World) (g : GoodR A c rs w) :
    Calls Try.prog 6 #[.slice A l c] w fun e w' => e = .returned (.bool true) ∧ Below w.heap.size w w' := by
  have c0 : ∀ W, Calls Try.prog 8 #[] W fun e w' => e = .returned (.bool true) ∧ Below W.heap.size W w' := fun W => alive_any W
  have hd : decide ((60 : Int) < (l : Int)) = false := by simp; omega
  have F9 := fun W h => join_any A l c rs hl h60 ok W h
  have HL := Lib.hid hl
  go_enter Try.func6, Try.ntmps6
  go_wp2_with fail
  (with_reducible refine (c0 _).mono ?_)
  rintro e w0 ⟨rfl, k0⟩
  clear c0
  go_wp2
  go_loopw [3, 4, 5] (fun n v i wr => ∃ k : Nat, k ≤ l ∧ i = .int .i64 k ∧ n = .int .i64 ((szN (rs.take k) : Nat) : Int) ∧ v = .bool ((rs.take k).all rightB) ∧ Below w.heap.size w wr) (fun _ _ i _ => l - (intOf i).toNat)
  case atStart => exact ⟨0, Nat.zero_le _, rfl, rfl, rfl, k0⟩
  case round =>
    obtain ⟨k, hk, rfl, rfl, rfl, hbel⟩ := hrel
    by_cases hlt : k < l
    · have hkl : k < rs.length := by omega
      have hxs := List.take_succ_eq_append_getElem hkl
      have okr := ok _ (List.getElem_mem hkl)
      obtain ⟨b, off, rfl, hbl, hro⟩ := (g.below hbel).cells k hkl
      have hsz := szN_le (rs.take k)
      rw [List.length_take] at hsz
      have hs1 := Lib.hid (szN_snoc (rs.take k) rs[k])
      have ha1 := Lib.hid (all_snoc (rs.take k) rs[k])
      have HX := Lib.hid hxs
      clear hxs
      generalize hr0 : rs[k] = r at *
      clear hr0 hkl
      have hszr : szR r = if rightB r then (encL r).length else 0 := rfl
      generalize szN (rs.take k) = sn at *
      generalize (rs.take k).all rightB = al at *
      cases hr : rightB r with
      | false =>
        have F1 : ∀ W, Calls Try.prog 16 #[.agg #[.int .i64 r.kind, .int .i64 r.tx, .int .u16 r.mask, .int .u8 r.k0, .int .u8 r.k1, .int .u8 r.k2, .int .u8 r.k3, .bool r.oT, .int .i64 r.oN, .bool r.nT, .int .i64 r.nN]] W fun e w' => e = .returned (.tuple #[.slice none 0 0, .bool false]) ∧ Below W.heap.size W w' := fun W => enc_no r hr W
        have F2 : ∀ W, Calls Try.prog 18 #[.agg #[.int .i64 r.kind, .int .i64 r.tx, .int .u16 r.mask, .int .u8 r.k0, .int .u8 r.k1, .int .u8 r.k2, .int .u8 r.k3, .bool r.oT, .int .i64 r.oN, .bool r.nT, .int .i64 r.nN]] W fun e w' => e = .returned (.bool false) ∧ Below W.heap.size W w' := fun W => right_any r false hr W
        rw [hr] at hszr ha1
        have HS : Hid (szN (rs.take (k + 1)) = sn) := Lib.hid (by rw [HX.out, hs1.out, hszr]; simp)
        have HA : Hid ((rs.take (k + 1)).all rightB = false) := Lib.hid (by rw [HX.out, ha1.out]; simp)
        clear hszr hs1 ha1 HX
        have q0 : wr.cell? ⟨b, off + k * 11, none⟩ = some (.int .i64 r.kind) := hro 0 _ rfl
        have q1 : wr.cell? ⟨b, off + k * 11 + 1, none⟩ = some (.int .i64 r.tx) := hro 1 _ rfl
        have q2 : wr.cell? ⟨b, off + k * 11 + 2, none⟩ = some (.int .u16 r.mask) := hro 2 _ rfl
        have q3 : wr.cell? ⟨b, off + k * 11 + 3, none⟩ = some (.int .u8 r.k0) := hro 3 _ rfl
        have q4 : wr.cell? ⟨b, off + k * 11 + 4, none⟩ = some (.int .u8 r.k1) := hro 4 _ rfl
        have q5 : wr.cell? ⟨b, off + k * 11 + 5, none⟩ = some (.int .u8 r.k2) := hro 5 _ rfl
        have q6 : wr.cell? ⟨b, off + k * 11 + 6, none⟩ = some (.int .u8 r.k3) := hro 6 _ rfl
        have q7 : wr.cell? ⟨b, off + k * 11 + 7, none⟩ = some (.bool r.oT) := hro 7 _ rfl
        have q8 : wr.cell? ⟨b, off + k * 11 + 8, none⟩ = some (.int .i64 r.oN) := hro 8 _ rfl
        have q9 : wr.cell? ⟨b, off + k * 11 + 9, none⟩ = some (.bool r.nT) := hro 9 _ rfl
        have q10 : wr.cell? ⟨b, off + k * 11 + 10, none⟩ = some (.int .i64 r.nN) := hro 10 _ rfl
        cases al
        all_goals
          go_wp2_with fail
          (with_reducible refine (F1 _).mono ?_)
          rintro e w1 ⟨rfl, k1⟩
          have hr1 := hro.below k1 hbl
          clear q0 q1 q2 q3 q4 q5 q6 q7 q8 q9 q10
          have q0 : w1.cell? ⟨b, off + k * 11, none⟩ = some (.int .i64 r.kind) := hr1 0 _ rfl
          have q1 : w1.cell? ⟨b, off + k * 11 + 1, none⟩ = some (.int .i64 r.tx) := hr1 1 _ rfl
          have q2 : w1.cell? ⟨b, off + k * 11 + 2, none⟩ = some (.int .u16 r.mask) := hr1 2 _ rfl
          have q3 : w1.cell? ⟨b, off + k * 11 + 3, none⟩ = some (.int .u8 r.k0) := hr1 3 _ rfl
          have q4 : w1.cell? ⟨b, off + k * 11 + 4, none⟩ = some (.int .u8 r.k1) := hr1 4 _ rfl
          have q5 : w1.cell? ⟨b, off + k * 11 + 5, none⟩ = some (.int .u8 r.k2) := hr1 5 _ rfl
          have q6 : w1.cell? ⟨b, off + k * 11 + 6, none⟩ = some (.int .u8 r.k3) := hr1 6 _ rfl
          have q7 : w1.cell? ⟨b, off + k * 11 + 7, none⟩ = some (.bool r.oT) := hr1 7 _ rfl
          have q8 : w1.cell? ⟨b, off + k * 11 + 8, none⟩ = some (.int .i64 r.oN) := hr1 8 _ rfl
          have q9 : w1.cell? ⟨b, off + k * 11 + 9, none⟩ = some (.bool r.nT) := hr1 9 _ rfl
          have q10 : w1.cell? ⟨b, off + k * 11 + 10, none⟩ = some (.int .i64 r.nN) := hr1 10 _ rfl
          go_wp2_with fail
          (with_reducible refine (F2 _).mono ?_)
          rintro e w2 ⟨rfl, k2⟩
          go_wp2
          go_roundw
          case rel => exact ⟨k + 1, by omega, by go_num, by rw [HS.out], by rw [HA.out], below_more (below_more hbel k1 (Nat.le_refl _)) k2 (Nat.le_refl _)⟩
          case measure => simp [intOf]; omega
      | true =>
        have hb24 := encL_bd r
        obtain ⟨n, hn⟩ : ∃ n, (encL r).length = n := ⟨_, rfl⟩
        have F1 : ∀ W, Calls Try.prog 16 #[.agg #[.int .i64 r.kind, .int .i64 r.tx, .int .u16 r.mask, .int .u8 r.k0, .int .u8 r.k1, .int .u8 r.k2, .int .u8 r.k3, .bool r.oT, .int .i64 r.oN, .bool r.nT, .int .i64 r.nN]] W fun e w' => ∃ A2 c2, e = .returned (.tuple #[.slice A2 n c2, .bool true]) ∧ Below W.heap.size W w' := fun W => by
          refine (enc_yes r hr okr W).mono ?_
          rintro e w' ⟨v, rfl, o, k⟩
          obtain ⟨A2, c2, rfl, g2⟩ := o.good
          exact ⟨A2, c2, by rw [hn], k⟩
        have F2 : ∀ W, Calls Try.prog 18 #[.agg #[.int .i64 r.kind, .int .i64 r.tx, .int .u16 r.mask, .int .u8 r.k0, .int .u8 r.k1, .int .u8 r.k2, .int .u8 r.k3, .bool r.oT, .int .i64 r.oN, .bool r.nT, .int .i64 r.nN]] W fun e w' => e = .returned (.bool true) ∧ Below W.heap.size W w' := fun W => right_any r true hr W
        rw [hr, hn] at hszr
        rw [hr] at ha1
        rw [hn] at hb24
        have HS : Hid (szN (rs.take (k + 1)) = sn + n) := Lib.hid (by rw [HX.out, hs1.out, hszr]; rfl)
        have HA : Hid ((rs.take (k + 1)).all rightB = al) := Lib.hid (by rw [HX.out, ha1.out]; simp)
        have d1 : decide ((n : Int) < 3) = false := by simp; omega
        have d2 : decide ((24 : Int) < (n : Int)) = false := by simp; omega
        clear hszr hs1 ha1 HX hn
        obtain ⟨hb3, hb4⟩ := hb24
        have q0 : wr.cell? ⟨b, off + k * 11, none⟩ = some (.int .i64 r.kind) := hro 0 _ rfl
        have q1 : wr.cell? ⟨b, off + k * 11 + 1, none⟩ = some (.int .i64 r.tx) := hro 1 _ rfl
        have q2 : wr.cell? ⟨b, off + k * 11 + 2, none⟩ = some (.int .u16 r.mask) := hro 2 _ rfl
        have q3 : wr.cell? ⟨b, off + k * 11 + 3, none⟩ = some (.int .u8 r.k0) := hro 3 _ rfl
        have q4 : wr.cell? ⟨b, off + k * 11 + 4, none⟩ = some (.int .u8 r.k1) := hro 4 _ rfl
        have q5 : wr.cell? ⟨b, off + k * 11 + 5, none⟩ = some (.int .u8 r.k2) := hro 5 _ rfl
        have q6 : wr.cell? ⟨b, off + k * 11 + 6, none⟩ = some (.int .u8 r.k3) := hro 6 _ rfl
        have q7 : wr.cell? ⟨b, off + k * 11 + 7, none⟩ = some (.bool r.oT) := hro 7 _ rfl
        have q8 : wr.cell? ⟨b, off + k * 11 + 8, none⟩ = some (.int .i64 r.oN) := hro 8 _ rfl
        have q9 : wr.cell? ⟨b, off + k * 11 + 9, none⟩ = some (.bool r.nT) := hro 9 _ rfl
        have q10 : wr.cell? ⟨b, off + k * 11 + 10, none⟩ = some (.int .i64 r.nN) := hro 10 _ rfl
        cases al
        all_goals
          go_wp2_with fail
          (with_reducible refine (F1 _).mono ?_)
          rintro e w1 ⟨A1, d1', rfl, k1⟩
          have hr1 := hro.below k1 hbl
          clear q0 q1 q2 q3 q4 q5 q6 q7 q8 q9 q10
          have q0 : w1.cell? ⟨b, off + k * 11, none⟩ = some (.int .i64 r.kind) := hr1 0 _ rfl
          have q1 : w1.cell? ⟨b, off + k * 11 + 1, none⟩ = some (.int .i64 r.tx) := hr1 1 _ rfl
          have q2 : w1.cell? ⟨b, off + k * 11 + 2, none⟩ = some (.int .u16 r.mask) := hr1 2 _ rfl
          have q3 : w1.cell? ⟨b, off + k * 11 + 3, none⟩ = some (.int .u8 r.k0) := hr1 3 _ rfl
          have q4 : w1.cell? ⟨b, off + k * 11 + 4, none⟩ = some (.int .u8 r.k1) := hr1 4 _ rfl
          have q5 : w1.cell? ⟨b, off + k * 11 + 5, none⟩ = some (.int .u8 r.k2) := hr1 5 _ rfl
          have q6 : w1.cell? ⟨b, off + k * 11 + 6, none⟩ = some (.int .u8 r.k3) := hr1 6 _ rfl
          have q7 : w1.cell? ⟨b, off + k * 11 + 7, none⟩ = some (.bool r.oT) := hr1 7 _ rfl
          have q8 : w1.cell? ⟨b, off + k * 11 + 8, none⟩ = some (.int .i64 r.oN) := hr1 8 _ rfl
          have q9 : w1.cell? ⟨b, off + k * 11 + 9, none⟩ = some (.bool r.nT) := hr1 9 _ rfl
          have q10 : w1.cell? ⟨b, off + k * 11 + 10, none⟩ = some (.int .i64 r.nN) := hr1 10 _ rfl
          go_wp2_with fail
          (with_reducible refine (F2 _).mono ?_)
          rintro e w2 ⟨rfl, k2⟩
          go_wp2
          go_roundw
          case rel => exact ⟨k + 1, by omega, by go_num, by rw [HS.out]; go_num, by rw [HA.out], below_more (below_more hbel k1 (Nat.le_refl _)) k2 (Nat.le_refl _)⟩
          case measure => simp [intOf]; omega
    · obtain rfl : k = l := by omega
      have e1 : rs.take k = rs := by rw [← HL.out, List.take_length]
      rw [e1]
      have hsl := szN_le rs
      have F9' := F9 _ (g.below hbel)
      clear F9 e1
      go_wp2_with fail
      refine F9'.mono ?_
      rintro e w1 (⟨ha, v, rfl, o, k1⟩ | ⟨ha, rfl, k1⟩)
      · obtain ⟨A1, c1, rfl, g1⟩ := o.good
        rw [ha, szN_all rs ha]
        generalize (joinL rs).length = jl at *
        have hkb := Lib.hid (below_more hbel k1 (Nat.le_refl _))
        clear g1 o F9' ha hsl
        have i3 : ((jl : Int) == (jl : Int)) = true := by simp
        go_wp2
        go_ret
        exact ⟨rfl, hkb.out⟩
      · rw [ha]
        generalize szN rs = sn at *
        have hkb := Lib.hid (below_more hbel k1 (Nat.le_refl _))
        clear F9' ha
        go_wp2
        go_ret
        exact ⟨rfl, hkb.out⟩
/-- RecSizes returns true, for every input. -/
theorem recSizes_any (A : Option Addr) (l c : Nat) (rs : List RecD) (hl : rs.length = l) (m : l ≤ 9223372036854775807) (ok : ∀ r ∈ rs, okR r) (w : World) (g : GoodR A c rs w) :
    Calls Try.prog 6 #[.slice A l c] w fun e w' => e = .returned (.bool true) ∧ Below w.heap.size w w' := by
  by_cases h : l ≤ 60
  · exact recSizes_in A l c rs hl h ok w g
  · exact recSizes_long A l c (by omega) m w
end Go.Proofs.Ytlohogcddelekaa

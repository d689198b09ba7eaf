/- The document's own Minus, Within, Of, List (concordatref06). -/
import Derived.Test.YthmccldkknhejaaDoorQa
namespace Go.Proofs.YthmccldkknhejaaDoor
open Go.RowKit Go.Deep
set_option linter.unusedVariables false

theorem hasN_nat (s k : Nat) (h : k < 64) : hasN s (k : Int) = s.testBit k := by
  unfold hasN isCat
  have : ((k : Int) < 64) := by omega
  simp [this]
set_option maxRecDepth 100000 in
set_option maxHeartbeats 1000000 in
theorem ref_minus (a b m : Nat) (ha : a < 18446744073709551616) (hb : b < 18446744073709551616) (hm : minus a b = m) (w : World) : Calls Tryd.prog 23 #[.int .u64 a, .int .u64 b] w fun e w' => e = .returned (.int .u64 m) ∧ w = w' := by
  have HM := Lib.hid hm
  clear hm
  go_enter Tryd.func23, Tryd.ntmps23
  go_wp2_with fail
  go_loop [5, 6] (fun x i => ∃ k v : Nat, k ≤ 64 ∧ i = .int .i64 k ∧ x = .int .u64 v ∧ minusTo a b k = v) (fun _ i => 64 - (intOf i).toNat)
  case atStart => exact ⟨0, 0, Nat.zero_le _, rfl, rfl, rfl⟩
  case round =>
    obtain ⟨k, v, hk, rfl, rfl, hv⟩ := hrel
    by_cases hlt : k < 64
    · have hv2 : v < 18446744073709551616 := by rw [← hv]; exact minusTo_lt a b k hk
      have hstep := minusTo_succ a b k
      have hnb := minusTo_bit a b k k (Nat.le_refl _)
      rw [hv] at hstep hnb
      have cA := fun W => ref_has a k _ ha (hasN_nat a k hlt) W
      have cB := fun W => ref_has b k _ hb (hasN_nat b k hlt) W
      obtain ⟨p, hp⟩ : ∃ p, 2 ^ k = p := ⟨_, rfl⟩
      have cO := ref_one k p hlt hp
      have hsum : (a.testBit k && !b.testBit k) = true → ∃ z, v ||| p = z ∧ IntKind.u64.wrap ((v : Int) + (p : Int)) = (z : Int) := fun _ => by
        have h1 := add_one hv2 hlt hnb
        rw [hp] at h1
        have h2 : v ||| p < 18446744073709551616 := or_lt hv2 (by rw [← hp]; exact one_lt hlt)
        refine ⟨v ||| p, rfl, ?_⟩
        rw [← h1] at h2 ⊢
        have := wrap_nat (v + p) h2
        rw [← this, Int.natCast_add]
      rw [hp] at hstep
      clear hp hnb hv hv2
      generalize a.testBit k = x at *
      generalize b.testBit k = y at *
      have HS := Lib.hid hstep
      clear hstep
      cases x with
      | false =>
        go_wp2_with fail
        refine (cA _).mono ?_
        rintro e w' ⟨rfl, rfl⟩
        go_wp2_with fail
        go_round
        case rel => exact ⟨k + 1, v, by omega, by go_num, rfl, HS.out⟩
        case measure => simp [intOf]; omega
      | true =>
        cases y with
        | true =>
          go_wp2_with fail
          refine (cA _).mono ?_
          rintro e w' ⟨rfl, rfl⟩
          go_wp2_with fail
          refine (cB _).mono ?_
          rintro e w' ⟨rfl, rfl⟩
          go_wp2_with fail
          go_round
          case rel => exact ⟨k + 1, v, by omega, by go_num, rfl, HS.out⟩
          case measure => simp [intOf]; omega
        | false =>
          obtain ⟨z, hz, hsum⟩ := hsum rfl
          have HZ := Lib.hid hz
          clear hz
          go_wp2_with fail
          refine (cA _).mono ?_
          rintro e w' ⟨rfl, rfl⟩
          go_wp2_with fail
          refine (cB _).mono ?_
          rintro e w' ⟨rfl, rfl⟩
          go_wp2_with fail
          refine (cO _).mono ?_
          rintro e w' ⟨rfl, rfl⟩
          go_wp2_with fail
          go_round
          case rel => exact ⟨k + 1, z, by omega, by go_num, rfl, by rw [HS.out]; exact HZ.out⟩
          case measure => simp [intOf]; omega
    · obtain rfl : k = 64 := by omega
      have HV := Lib.hid hv
      clear hv
      go_wp2_with fail
      go_ret
      have : v = m := by rw [← HV.out, ← HM.out]; exact minusTo_all ha hb
      subst this
      exact ⟨rfl, rfl⟩
set_option maxRecDepth 100000 in
set_option maxHeartbeats 1000000 in
theorem ref_within (a b : Nat) (o : Bool) (ha : a < 18446744073709551616) (hb : b < 18446744073709551616) (ho : within a b = o) (w : World) : Calls Tryd.prog 21 #[.int .u64 a, .int .u64 b] w fun e w' => e = .returned (.bool o) ∧ w = w' := by
  obtain ⟨m, hm⟩ : ∃ m, minus a b = m := ⟨_, rfl⟩
  have hc := ref_minus a b m ha hb hm
  have h1 : ((m : Int) == 0) = o := by
    rw [← ho]; unfold within; rw [hm]
    by_cases h : m = 0
    · subst h; rfl
    · simp [h]
  clear hm
  go_enter Tryd.func21, Tryd.ntmps21
  go_wp2_with (go_at_call 23; refine (hc _).mono ?_; rintro e w' ⟨rfl, rfl⟩)
  go_ret
  exact ⟨rfl, rfl⟩
theorem or_same {u c : Nat} (h : u.testBit c = true) : u ||| 2 ^ c = u := by
  apply Nat.eq_of_testBit_eq
  intro i
  rw [Nat.testBit_or, bit_one]
  by_cases hi : c = i
  · subst hi; simp [h]
  · simp [hi]
set_option maxRecDepth 100000 in
set_option maxHeartbeats 1000000 in
theorem ref_of (A : Option Addr) (zs : List Int) (l c B : Nat) (u : Nat) (o : Bool) (hl : zs.length = l) (hl2 : l ≤ 17592186044416) (ho : ofN zs = (u, o)) (w : World) (h : Ints .i64 B w A zs) :
    Calls Tryd.prog 12 #[.slice A l c] w fun e w' => e = .returned (.tuple #[.int .u64 u, .bool o]) ∧ w = w' := by
  have HL := Lib.hid hl
  have HO := Lib.hid ho
  clear hl ho
  go_enter Tryd.func12, Tryd.ntmps12
  go_wp2_with fail
  go_loop [4, 5] (fun s i => ∃ (k x : Nat), k ≤ l ∧ s = .int .u64 x ∧ i = .int .i64 k ∧ x < 18446744073709551616 ∧ setOf (natsI (zs.take k)) = x ∧ (zs.take k).all isCat = true) (fun _ i => l - (intOf i).toNat)
  case atStart => exact ⟨0, 0, Nat.zero_le _, rfl, rfl, by decide, rfl, by simp⟩
  case round =>
    obtain ⟨k, x, hk, rfl, rfl, hx, hset, hall⟩ := hrel
    by_cases hlt : k < l
    · have hkl : k < zs.length := by rw [HL.out]; exact hlt
      obtain ⟨b, off, rfl, hb, hc⟩ := h (by omega)
      have hck : w.cell? ⟨b, off + k, none⟩ = some (.int .i64 (zs[k]?.getD 0)) := hc k hkl
      have hstep := Lib.hid (fun e => all_take hkl hall e)
      have hbad := Lib.hid (fun e => all_bad hkl e)
      clear hc
      have HS := Lib.hid hset
      clear hset hall hkl
      generalize zs[k]?.getD 0 = y at *
      by_cases hy : isCat y = true
      · obtain ⟨m, rfl, hm⟩ := isCat_nat hy
        obtain ⟨v, hv⟩ : ∃ v, 2 ^ m = v := ⟨_, rfl⟩
        have c1 := ref_one m v hm hv
        have c2 := fun W => ref_has x m _ hx (hasN_nat x m hm) W
        have hs2 := hstep.out hy
        rw [HS.out, Int.toNat_natCast, hv] at hs2
        have hm0 : ¬ ((m : Int) < 0) := by omega
        have hm1 : ¬ ((63 : Int) < (m : Int)) := by omega
        by_cases hbit : x.testBit m = true
        · have e := or_same hbit
          rw [hv] at e
          rw [e] at hs2
          rw [hbit] at c2
          have HS2 := Lib.hid hs2
          clear hs2 e hbit hv hy
          go_wp2_with fail
          refine (c2 _).mono ?_
          rintro e w' ⟨rfl, rfl⟩
          go_wp2_with fail
          go_round
          case rel => exact ⟨k + 1, x, by omega, rfl, by go_num, hx, HS2.out.2, HS2.out.1⟩
          case measure => simp [intOf]; omega
        · have hbf : x.testBit m = false := by simpa using hbit
          have hv2 : v < 18446744073709551616 := by rw [← hv]; exact one_lt hm
          have e := add_one hx hm hbf
          rw [hv] at e
          obtain ⟨z, hz⟩ : ∃ z, x ||| v = z := ⟨_, rfl⟩
          have hz2 : z < 18446744073709551616 := by rw [← hz]; exact or_lt hx hv2
          have hsum : IntKind.u64.wrap ((x : Int) + (v : Int)) = (z : Int) := by
            have := wrap_nat z hz2
            rw [← hz, ← e, Int.natCast_add] at this
            rw [this, ← Int.natCast_add, e, hz]
          rw [hz] at hs2
          rw [hbf] at c2
          have HS2 := Lib.hid hs2
          clear hs2 e hbit hbf hv hz hy
          go_wp2_with fail
          refine (c2 _).mono ?_
          rintro e w' ⟨rfl, rfl⟩
          go_wp2_with fail
          refine (c1 _).mono ?_
          rintro e w' ⟨rfl, rfl⟩
          go_wp2_with fail
          go_round
          case rel => exact ⟨k + 1, z, by omega, rfl, by go_num, hz2, HS2.out.2, HS2.out.1⟩
          case measure => simp [intOf]; omega
      · have hf : isCat y = false := by simpa using hy
        have HF := Lib.hid (hbad.out hf)
        have key : y < 0 ∨ (0 ≤ y ∧ 63 < y) := by simp [isCat] at hf; omega
        clear hf hy
        rcases key with key | ⟨key, key2⟩
        all_goals
          go_wp2_with fail
          go_ret2
          have := HO.out
          rw [HF.out] at this
          cases this
          exact ⟨rfl, rfl⟩
    · obtain rfl : k = l := by omega
      have HS := Lib.hid hset
      have HA := Lib.hid hall
      clear hset hall
      go_wp2_with fail
      go_ret2
      have h1 := HO.out
      have h2 := HS.out
      have h3 := HA.out
      rw [← HL.out, List.take_length] at h2 h3
      unfold ofN at h1
      rw [if_pos h3, show zs.map Int.toNat = natsI zs from rfl, h2] at h1
      cases h1
      exact ⟨rfl, rfl⟩
end Go.Proofs.YthmccldkknhejaaDoor

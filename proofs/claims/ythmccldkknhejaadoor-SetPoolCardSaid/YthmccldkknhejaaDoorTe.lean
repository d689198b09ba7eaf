/- SetPool's walk. -/
import Derived.Test.YthmccldkknhejaaDoorQg
namespace Go.Proofs.YthmccldkknhejaaDoor
open Go.RowKit Go.Deep
set_option linter.unusedVariables false

theorem take_one (x : Nat) : takeN x 1 = ((manyN x 1).1, (manyN x 1).2.1, decide ((manyN x 1).2.2 = 0)) := by
  unfold takeN manyN
  rw [if_neg (by decide : ¬ ((1 : Int) < 0 ∨ (64 : Int) < 1))]
  split <;> rfl
theorem many_err (x : Nat) (n : Int) {s u : Nat} {e : Int} (h : manyN x n = (s, u, e)) (h0 : e ≠ 0) : e = 11 ∨ e = 16 := by
  unfold manyN at h
  split at h
  · cases h; exact .inl rfl
  · split at h
    · cases h; exact .inr rfl
    · cases h; exact absurd rfl h0
theorem many_err1 (x : Nat) {s u : Nat} {e : Int} (h : manyN x 1 = (s, u, e)) (h0 : e ≠ 0) : e = 16 := by
  unfold manyN at h
  rw [if_neg (by decide : ¬ ((1 : Int) < 0 ∨ (64 : Int) < 1))] at h
  split at h
  · cases h; rfl
  · cases h; exact absurd rfl h0
theorem many_off {x : Nat} (hx : x < 18446744073709551616) {n : Int} {s u : Nat} {e : Int} (h : manyN x n = (s, u, e)) : s &&& x = 0 := by
  have key : ∀ i, s.testBit i = true → x.testBit i = false := fun i hi => by
    unfold manyN at h
    split at h
    · cases h; simp at hi
    · split at h
      · cases h; simp at hi
      · cases h; exact least_off hx _ _ hi
  apply Nat.eq_of_testBit_eq
  intro i
  rw [Nat.testBit_and, Nat.zero_testBit]
  cases hs : s.testBit i with
  | true => rw [key i hs]; rfl
  | false => rfl
theorem many_has {x : Nat} (hx : x < 18446744073709551616) {s u : Nat} (h : manyN x 1 = (s, u, 0)) : hasN s (Lib.ctz 64 s : Nat) = true ∧ hasN x (Lib.ctz 64 s : Nat) = false := by
  have hs : s < 18446744073709551616 := by have := (many_lt x 1 hx).1; rw [h] at this; exact this
  have hoff := many_off hx h
  have hs0 : s ≠ 0 := by
    unfold manyN at h
    rw [if_neg (by decide : ¬ ((1 : Int) < 0 ∨ (64 : Int) < 1))] at h
    split at h
    · cases h
    · rename_i hn
      cases h
      unfold leastN
      cases hc : cats (freeN x) with
      | nil => rw [hc] at hn; simp at hn
      | cons y ys =>
        intro e
        have := bit_setOf (List.take (1 : Int).toNat (y :: ys)) y
        rw [e] at this
        simp at this
  obtain ⟨h1, h2, _⟩ := ctz_bit hs0 hs
  generalize Lib.ctz 64 s = k at *
  have hb : x.testBit k = false := by
    have := congrArg (fun q => q.testBit k) hoff
    simp only [Nat.testBit_and, h2, Nat.zero_testBit, Bool.true_and] at this
    exact this
  exact ⟨by rw [hasN_nat s k h1, h2], by rw [hasN_nat x k h1, hb]⟩
set_option maxRecDepth 100000 in
set_option maxHeartbeats 2000000 in
theorem setPool_walk (u : Nat) (A : Option Addr) (zs : List Int) (len cap : Nat) (hu : u < 18446744073709551616) (hl : zs.length = len) (w : World) (hI : Ints .i64 w.heap.size w A zs) (hG : Gnd w) :
    Calls Tryd.prog 6 #[.int .u64 u, .slice A len cap] w fun e w' => e = .returned (.bool true) ∧ Below w.heap.size w w' := by
  have hA := alive_any w hG
  by_cases hbig : 200 < len
  · have hd : (200 : Int) < (len : Int) := by omega
    clear hl hbig
    go_enter Tryd.func6, Tryd.ntmps6
    go_wp2_with fail
    refine hA.mono ?_
    rintro e w1 ⟨rfl, hb⟩
    go_wp2_with fail
    go_ret
    exact ⟨rfl, hb⟩
  · have hm : len ≤ 200 := by omega
    have hd : ¬ ((200 : Int) < (len : Int)) := by omega
    have HL := Lib.hid hl
    clear hbig hl
    go_enter Tryd.func6, Tryd.ntmps6
    go_wp2_with fail
    refine hA.mono ?_
    rintro e w1 ⟨rfl, hb1⟩
    go_wp2_with fail
    refine (newPool_any u w1).mono ?_
    rintro e w2 ⟨rfl, hp2, hb⟩
    have hb2 := below_more hb1 hb (Nat.le_refl _)
    have hI2 := hI.below hb2 (Nat.le_refl _)
    have hgb : 0 < w1.heap.size := (hG.below hb1).lt
    have hwb : w.heap.size ≤ w1.heap.size := hb1.size
    generalize w1.heap.size = b at *
    clear hb hb1
    go_wp2_with fail
    go_loopw [6, 7] (fun t i wr => ∃ (k x : Nat), k ≤ len ∧ i = .int .i64 k ∧ t = .int .u64 x ∧ x < 18446744073709551616 ∧ PoolAt wr b x ∧ Below w.heap.size w wr) (fun _ i _ => len - (intOf i).toNat)
    case atStart => exact ⟨0, u, Nat.zero_le _, rfl, rfl, hu, hp2, hb2⟩
    case round =>
      obtain ⟨k, x, hk, rfl, rfl, hx, hp, hB⟩ := hrel
      by_cases hlt : k < len
      · have hIr := hI.below hB (Nat.le_refl _)
        obtain ⟨b1, off, rfl, hbb, hc⟩ := hIr (by have := HL.out; omega)
        have hck : wr.cell? ⟨b1, off + k, none⟩ = some (.int .i64 (zs[k]?.getD 0)) := hc k (by have := HL.out; omega)
        have hcell : ∀ W, Turns b wr W → W.cell? ⟨b1, off + k, none⟩ = some (.int .i64 (zs[k]?.getD 0)) := fun W hW =>
          ((hW.below hwb hB.size).cell (p := ⟨b1, off + k, none⟩) hbb).trans hck
        clear hc
        generalize zs[k]?.getD 0 = y at *
        have HCL := Lib.hid hcell
        clear hcell
        have hGr := hG.below hB
        obtain ⟨s, u', err, hmm⟩ : ∃ s u' err, manyN x y = (s, u', err) := ⟨_, _, _, rfl⟩
        have hml := many_lt x y hx
        rw [hmm] at hml
        obtain ⟨hs2, hu2⟩ := hml
        have hoff := many_off hx hmm
        by_cases hy : y = 1
        · subst hy
          have hto := take_one x
          rw [hmm] at hto
          by_cases he : err = 0
          · subst he
            obtain ⟨c, hc⟩ : ∃ c, Lib.ctz 64 s = c := ⟨_, rfl⟩
            have hhas := many_has hx hmm
            rw [hc] at hhas
            obtain ⟨hh1, hh2⟩ := hhas
            have cT := ref_take x s u' 1 true hx hto
            have cH1 := has_any s (c : Int) true hs2 hh1
            have cH2 := has_any x (c : Int) false hx hh2
            have cP := pool_take b x s u' c 0 hx hmm (by rw [if_pos rfl]; exact hc) wr hp hGr hgb
            clear hto hh1 hh2 hc hmm hoff
            go_wp2_with fail
            refine cP.mono ?_
            rintro e w4 ⟨rfl, hp4, ht4⟩
            have hb4 := hB.trans (ht4.below hwb hB.size)
            go_wp2_with fail
            refine (cT _).mono ?_
            rintro e _ ⟨rfl, rfl⟩
            go_wp2_with fail
            refine (cH1 _).mono ?_
            rintro e _ ⟨rfl, rfl⟩
            go_wp2_with fail
            refine (cH2 _).mono ?_
            rintro e _ ⟨rfl, rfl⟩
            have cK := taken_any b u' w4 hp4
            go_wp2_with fail
            refine cK.mono ?_
            rintro e _ ⟨rfl, rfl⟩
            go_wp2_with fail
            go_roundw
            case rel => exact ⟨k + 1, u', by omega, by go_num, rfl, hu2, hp4, hb4⟩
            case measure => simp [intOf]; omega
          · have e16 := many_err1 x hmm he
            subst e16
            have cT := ref_take x s u' 1 false hx hto
            have cP := pool_take b x s u' 0 16 hx hmm rfl wr hp hGr hgb
            clear hto hmm hoff he
            go_wp2_with fail
            refine cP.mono ?_
            rintro e w4 ⟨rfl, hp4, ht4⟩
            have hb4 := hB.trans (ht4.below hwb hB.size)
            go_wp2_with fail
            refine (cT _).mono ?_
            rintro e _ ⟨rfl, rfl⟩
            have cK := taken_any b u' w4 hp4
            go_wp2_with fail
            refine cK.mono ?_
            rintro e _ ⟨rfl, rfl⟩
            go_wp2_with fail
            go_roundw
            case rel => exact ⟨k + 1, u', by omega, by go_num, rfl, hu2, hp4, hb4⟩
            case measure => simp [intOf]; omega
        · have hy1 : (y == 1) = false := by simp [hy]
          have cM := ref_many x s u' y err hx hmm
          have cP := pool_many b x s u' y err hx hmm wr hp hGr
          have hand : bits .and .u64 (s : Int) (x : Int) = 0 := by rw [bits_and_u64_nat s x hs2 hx, hoff]; rfl
          clear hmm hoff hy
          go_wp2_with fail
          refine cP.mono ?_
          rintro e w4 ⟨rfl, hp4, ht4⟩
          have hb4 := hB.trans (ht4.below hwb hB.size)
          have hc4 := HCL.out w4 ht4
          go_wp2_with fail
          refine (cM _).mono ?_
          rintro e _ ⟨rfl, rfl⟩
          have cK := taken_any b u' w4 hp4
          go_wp2_with fail
          refine cK.mono ?_
          rintro e _ ⟨rfl, rfl⟩
          go_wp2_with fail
          go_roundw
          case rel => exact ⟨k + 1, u', by omega, by go_num, rfl, hu2, hp4, hb4⟩
          case measure => simp [intOf]; omega
      · obtain rfl : k = len := by omega
        go_wp2_with fail
        go_ret
        exact ⟨rfl, hB⟩
end Go.Proofs.YthmccldkknhejaaDoor

/- set.Of: the set of a list of categories, for every list. -/
import Derived.Test.YthmccldkknhejaaDoorPd
namespace Go.Proofs.YthmccldkknhejaaDoor
open Go.RowKit
set_option linter.unusedVariables false

/-- What Of answers: the set and true, or 0 and false. -/
def ofN (l : List Int) : Nat × Bool := if l.all isCat then (setOf (l.map Int.toNat), true) else (0, false)
def natsI (l : List Int) : List Nat := l.map Int.toNat
theorem isCat_nat {c : Int} (h : isCat c = true) : ∃ k : Nat, c = k ∧ k < 64 := by
  simp [isCat] at h
  exact ⟨c.toNat, by omega, by omega⟩
theorem all_take {l : List Int} {k : Nat} (hk : k < l.length) (h : (l.take k).all isCat = true) (hc : isCat (l[k]?.getD 0) = true) : (l.take (k + 1)).all isCat = true ∧ setOf (natsI (l.take (k + 1))) = setOf (natsI (l.take k)) ||| 2 ^ (l[k]?.getD 0).toNat := by
  have e : l.take (k + 1) = l.take k ++ [l[k]?.getD 0] := by
    rw [List.take_succ_eq_append_getElem hk]; simp [hk]
  rw [e]
  refine ⟨by rw [List.all_append, h]; simp [hc], ?_⟩
  unfold natsI
  rw [List.map_append]
  exact setOf_snoc _ _
theorem all_bad {l : List Int} {k : Nat} (hk : k < l.length) (hc : isCat (l[k]?.getD 0) = false) : ofN l = (0, false) := by
  unfold ofN
  rw [if_neg]
  intro h
  have := List.all_eq_true.1 h l[k] (by simp)
  simp [hk] at hc
  rw [hc] at this; cases this
theorem setOf_cats_lt {l : List Int} (h : l.all isCat = true) : setOf (natsI l) < 18446744073709551616 := setOf_lt _ (fun c hc => by
  obtain ⟨x, hx, rfl⟩ := List.mem_map.1 hc
  obtain ⟨k, rfl, hk⟩ := isCat_nat (List.all_eq_true.1 h x hx)
  simpa using hk)
theorem of_lt (l : List Int) : (ofN l).1 < 18446744073709551616 := by
  unfold ofN
  split
  · rename_i h; exact setOf_cats_lt h
  · decide

set_option maxRecDepth 100000 in
set_option maxHeartbeats 1000000 in
theorem of_any (A : Option Addr) (zs : List Int) (l c B : Nat) (u : Nat) (o : Bool) (hl : zs.length = l) (hl2 : l ≤ 17592186044416) (ho : ofN zs = (u, o)) (w : World) (h : Ints .i64 B w A zs) :
    Calls Tryd.prog 11 #[.slice A l c] w fun e w' => e = .returned (.tuple #[.int .u64 u, .bool o]) ∧ Dr w w' := by
  have HL := Lib.hid hl
  have HO := Lib.hid ho
  clear hl ho
  go_enter Tryd.func11, Tryd.ntmps11
  go_wp2
  go_loopw [4, 9] (fun s i wr => ∃ (k x : Nat), k ≤ l ∧ s = .int .u64 x ∧ i = .int .i64 k ∧ x < 18446744073709551616 ∧ setOf (natsI (zs.take k)) = x ∧ (zs.take k).all isCat = true ∧ Dr w wr) (fun _ i _ => l - (intOf i).toNat)
  case atStart => exact ⟨0, 0, Nat.zero_le _, rfl, rfl, by decide, rfl, by simp, Dr.refl w⟩
  case round =>
    obtain ⟨k, x, hk, rfl, rfl, hx, hset, hall, n, rfl⟩ := hrel
    by_cases hlt : k < l
    · have hkl : k < zs.length := by rw [HL.out]; exact hlt
      obtain ⟨b, off, rfl, hb, hc⟩ := h (by omega)
      have hck : w.cell? ⟨b, off + k, none⟩ = some (.int .i64 (zs[k]?.getD 0)) := hc k hkl
      have hstep := Lib.hid (fun e => all_take hkl hall e)
      have hbad := Lib.hid (fun e => all_bad hkl e)
      clear hc
      have HS := Lib.hid hset
      clear hset hall hkl
      generalize zs[k]?.getD 0 = y at *
      by_cases hy : isCat y = true
      · have c1 := fun W => isCat_any y W
        simp only [hy] at c1
        obtain ⟨m, rfl, hm⟩ := isCat_nat hy
        obtain ⟨v, hv⟩ : ∃ v, 2 ^ m = v := ⟨_, rfl⟩
        have c2 := only_any m v hm hv
        obtain ⟨z, hz⟩ : ∃ z, x ||| v = z := ⟨_, rfl⟩
        have hv2 : v < 18446744073709551616 := by rw [← hv]; exact one_lt hm
        have hz2 : z < 18446744073709551616 := by rw [← hz]; exact or_lt hx hv2
        have hor : bits .or .u64 (x : Int) (v : Int) = (z : Int) := by rw [bits_or_u64_nat x v hx hv2, hz]
        have hs2 := hstep.out hy
        rw [HS.out, Int.toNat_natCast, hv, hz] at hs2
        have HS2 := Lib.hid hs2
        clear hs2 hz hv hy
        go_wp2_with fail
        refine (c1 _).mono ?_
        rintro e w' ⟨rfl, rfl⟩
        go_wp2_with fail
        refine (c2 _).mono ?_
        rintro e w' ⟨rfl, rfl⟩
        go_wp2_with fail
        go_roundw
        case rel => exact ⟨k + 1, z, by omega, rfl, by go_num, hz2, HS2.out.2, HS2.out.1, Dr.of _⟩
        case measure => simp [intOf]; omega
      · have hf : isCat y = false := by simpa using hy
        have c1 := fun W => isCat_any y W
        simp only [hf] at c1
        have HF := Lib.hid (hbad.out hf)
        clear hf hy
        go_wp2_with fail
        refine (c1 _).mono ?_
        rintro e w' ⟨rfl, rfl⟩
        go_wp2_with fail
        go_ret2
        have := HO.out
        rw [HF.out] at this
        cases this
        exact ⟨rfl, Dr.of _⟩
    · obtain rfl : k = l := by omega
      have HS := Lib.hid hset
      have HA := Lib.hid hall
      clear hset hall
      go_wp2_with fail
      go_ret2
      have h1 := HO.out
      have h2 := HS.out
      have h3 := HA.out
      rw [← HL.out, List.take_length] at h2 h3
      unfold ofN at h1
      rw [if_pos h3, show zs.map Int.toNat = natsI zs from rfl, h2] at h1
      cases h1
      exact ⟨rfl, Dr.of _⟩
end Go.Proofs.YthmccldkknhejaaDoor

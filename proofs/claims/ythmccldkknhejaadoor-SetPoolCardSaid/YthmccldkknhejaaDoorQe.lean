/- The document's own Read (concordatref06): byte by byte. -/
import Derived.Test.YthmccldkknhejaaDoorQd
namespace Go.Proofs.YthmccldkknhejaaDoor
open Go.RowKit Go.Deep
set_option linter.unusedVariables false

set_option maxRecDepth 100000 in
set_option maxHeartbeats 1000000 in
theorem ref_only (t : List UInt8) (o : Bool) (ho : (t == noneB) = o) (w : World) : Calls Tryd.prog 37 #[.string (strB t)] w fun e w' => e = .returned (.tuple #[.int .u64 0, .bool o]) ∧ w = w' := by
  have h1 : ((strB t).toList == [110, 111, 110, 101]) = o := by rw [Lib.toList_data]; exact ho
  have h3 : (⟨#[110, 111, 110, 101]⟩ : ByteArray).toList = [110, 111, 110, 101] := ByteArray.toList_mk [110, 111, 110, 101]
  have h2 : ((strB t).toList == (⟨#[110, 111, 110, 101]⟩ : ByteArray).toList) = o := by rw [h3]; exact h1
  generalize strB t = x at *
  go_enter Tryd.func37, Tryd.ntmps37
  go_wp2_with fail
  go_ret2
  exact ⟨rfl, rfl⟩

theorem refRun_take {t : List UInt8} {i : Nat} {st : Nat × Int × Int} (hi : i < t.length) (h : refRun (t.take i) (0, -1, -1) = some st) : refRun (t.take (i + 1)) (0, -1, -1) = refStep st t[i] := by
  rw [List.take_succ_eq_append_getElem hi, refRun_append, h]
  show (refRun [t[i]] st) = _
  unfold refRun
  cases refStep st t[i] <;> rfl
theorem refRun_dead {t : List UInt8} {i : Nat} {st : Nat × Int × Int} (hi : i < t.length) (h : refRun (t.take i) (0, -1, -1) = some st) (h2 : refStep st t[i] = none) : refRun t (0, -1, -1) = none := by
  have h3 := refRun_take hi h
  rw [h2] at h3
  have h4 := refRun_append (t.take (i + 1)) (t.drop (i + 1)) (0, -1, -1)
  rw [List.take_append_drop, h3] at h4
  exact h4
/-- What the loop knows. -/
def RefAt (t : List UInt8) (i u : Nat) (nn fr : Int) : Prop := refRun ((t ++ [44]).take i) (0, -1, -1) = some (u, nn, fr)
/-- The byte at a place of a text with a comma behind it. -/
def byteC (t : List UInt8) (i : Nat) : UInt8 := (t ++ [44])[i]?.getD 0
theorem refAt_step {t : List UInt8} {i u u' : Nat} {nn fr nn' fr' : Int} (hi : i ≤ t.length) (h : RefAt t i u nn fr) (hs : refStep (u, nn, fr) (byteC t i) = some (u', nn', fr')) : RefAt t (i + 1) u' nn' fr' := by
  have hl : i < (t ++ [44]).length := by simp; omega
  unfold RefAt at *
  rw [refRun_take hl h]
  unfold byteC at hs
  rw [List.getElem?_eq_getElem hl] at hs
  exact hs
theorem refAt_dead {t : List UInt8} {i u : Nat} {nn fr : Int} (hi : i ≤ t.length) (h : RefAt t i u nn fr) (hs : refStep (u, nn, fr) (byteC t i) = none) : refReadN t = (0, t == noneB) := by
  have hl : i < (t ++ [44]).length := by simp; omega
  unfold RefAt at h
  unfold byteC at hs
  rw [List.getElem?_eq_getElem hl] at hs
  unfold refReadN
  rw [refRun_dead hl h hs]
theorem byteC_end (t : List UInt8) : byteC t t.length = 44 := by unfold byteC; simp
theorem byteC_in {t : List UInt8} {i : Nat} (h : i < t.length) : byteC t i = t[i] := by unfold byteC; rw [List.getElem?_append_left h]; simp [h]
theorem u8_le (a : Nat) (ha : a < 256) (x : UInt8) : (UInt8.ofNat a ≤ x) ↔ a ≤ x.toNat := by
  rw [UInt8.le_iff_toNat_le, UInt8.toNat_ofNat']; rw [Nat.mod_eq_of_lt (by omega)]
theorem u8_eq (x : UInt8) (a : Nat) (ha : a < 256) : (x = UInt8.ofNat a) ↔ x.toNat = a := by
  constructor
  · rintro rfl; rw [UInt8.toNat_ofNat']; exact Nat.mod_eq_of_lt (by omega)
  · intro h; apply UInt8.toNat.inj; rw [UInt8.toNat_ofNat', h]; exact (Nat.mod_eq_of_lt (by omega)).symm
theorem step_digit (u : Nat) (nn fr : Int) (x : UInt8) (h1 : 48 ≤ x.toNat) (h2 : x.toNat ≤ 57) : refStep (u, nn, fr) x = if 63 < max nn 0 * 10 + ((x.toNat : Int) - 48) then none else some (u, max nn 0 * 10 + ((x.toNat : Int) - 48), fr) := by
  have e0 : ¬ x = 44 := fun e => by subst e; simp at h1
  have e1 : (48 : UInt8) ≤ x ∧ x ≤ 57 := by
    rw [UInt8.le_iff_toNat_le, UInt8.le_iff_toNat_le]; exact ⟨h1, h2⟩
  unfold refStep
  rw [if_neg e0]
  unfold numStep
  rw [if_pos e1]
  simp only
  split <;> rfl
theorem step_comma (u : Nat) (nn fr : Int) : refStep (u, nn, fr) 44 = if 0 ≤ nn then some (addTo u (if fr < 0 then nn else fr).toNat (nn.toNat + 1), -1, -1) else none := by
  unfold refStep; rw [if_pos rfl]
theorem step_dash (u : Nat) (nn fr : Int) : refStep (u, nn, fr) 45 = if 0 ≤ nn ∧ fr < 0 then some (u, -1, nn) else none := by
  unfold refStep
  rw [if_neg (by decide)]
  unfold numStep
  rw [if_neg (by decide)]
  by_cases h : 0 ≤ nn ∧ fr < 0
  · rw [if_pos ⟨rfl, h.1, h.2⟩, if_pos h]; rfl
  · rw [if_neg (fun k => h ⟨k.2.1, k.2.2⟩), if_neg h]; rfl
theorem step_other (u : Nat) (nn fr : Int) (x : UInt8) (h0 : x.toNat ≠ 44) (h1 : x.toNat ≠ 45) (h2 : ¬ (48 ≤ x.toNat ∧ x.toNat ≤ 57)) : refStep (u, nn, fr) x = none := by
  have e0 : ¬ x = 44 := fun e => by subst e; simp at h0
  have e1 : ¬ ((48 : UInt8) ≤ x ∧ x ≤ 57) := by
    rw [UInt8.le_iff_toNat_le, UInt8.le_iff_toNat_le]; exact h2
  have e2 : ¬ x = 45 := fun e => by subst e; simp at h1
  unfold refStep
  rw [if_neg e0]
  unfold numStep
  rw [if_neg e1, if_neg (fun k => e2 k.1)]
  rfl
set_option maxRecDepth 100000 in
set_option maxHeartbeats 4000000 in
theorem ref_read (t : List UInt8) (u0 : Nat) (o : Bool) (hl : t.length ≤ 1000) (hr : refReadN t = (u0, o)) (w : World) : Calls Tryd.prog 14 #[.string (strB t)] w fun e w' => e = .returned (.tuple #[.int .u64 u0, .bool o]) ∧ Below w.heap.size w w' := by
  obtain ⟨len, hlen⟩ : ∃ len, t.length = len := ⟨_, rfl⟩
  have hsz : (strB t).size = len := by rw [strB_size, hlen]
  have cN := fun W => ref_only t _ rfl W
  have HLEN := Lib.hid hlen
  have HR := Lib.hid hr
  rw [hlen] at hl
  clear hlen hr
  obtain ⟨ts, hts⟩ : ∃ ts, strB t = ts := ⟨_, rfl⟩
  rw [hts] at hsz cN
  rw [hts]
  have HTS := Lib.hid hts
  clear hts
  go_enter Tryd.func14, Tryd.ntmps14
  go_wp2_with fail
  go_loop [4, 5, 6, 7] (fun s n f i => ∃ (k u : Nat) (nn fr : Int), k ≤ len + 1 ∧ i = .int .i64 k ∧ s = .int .u64 u ∧ n = .int .i64 nn ∧ f = .int .i64 fr ∧ u < 18446744073709551616 ∧ -1 ≤ nn ∧ nn ≤ 63 ∧ -1 ≤ fr ∧ fr ≤ 63 ∧ RefAt t k u nn fr) (fun _ _ _ i => len + 1 - (intOf i).toNat)
  case atStart => exact ⟨0, 0, -1, -1, by omega, rfl, rfl, rfl, rfl, by decide, by decide, by decide, by decide, by decide, rfl⟩
  case round =>
    obtain ⟨i, u, nn, fr, hi, rfl, rfl, rfl, rfl, hu, hn1, hn2, hf1, hf2, hat⟩ := hrel
    by_cases hle : i ≤ len
    · have hdead : refStep (u, nn, fr) (byteC t i) = none → refReadN t = (0, t == noneB) := fun h => refAt_dead (by have := HLEN.out; omega) hat h
      have hgo : ∀ u' nn' fr', refStep (u, nn, fr) (byteC t i) = some (u', nn', fr') → RefAt t (i + 1) u' nn' fr' := fun u' nn' fr' h => refAt_step (by have := HLEN.out; omega) hat h
      by_cases hlt : i < len
      · have hti : i < t.length := by have := HLEN.out; omega
        have hisz : i < ts.size := by omega
        obtain ⟨x, hx⟩ : ∃ x, byteC t i = x := ⟨_, rfl⟩
        obtain ⟨c, hc⟩ : ∃ c, x.toNat = c := ⟨_, rfl⟩
        have hc256 : c < 256 := by rw [← hc]; exact x.toNat_lt
        have hidx : (ts[i]'hisz).toNat = c := by
          have e : ts[i]'hisz = x := by
            have h1 := HTS.out
            subst h1
            rw [← hx, byteC_in hti]
            rfl
          rw [e, hc]
        rw [hx] at hdead hgo
        clear hx hat
        by_cases hcls : 48 ≤ c ∧ c ≤ 57
        · obtain ⟨hcl, hcu⟩ := hcls
          have hstep := step_digit u nn fr x (by omega) (by omega)
          rw [hc] at hstep
          rw [hstep] at hdead hgo
          obtain ⟨v, hv⟩ : ∃ v, max nn 0 * 10 + ((c : Int) - 48) = v := ⟨_, rfl⟩
          rw [hv] at hdead hgo
          by_cases hbig : 63 < v
          · rw [if_pos hbig] at hdead
            have HD := Lib.hid (hdead rfl)
            clear hdead hgo hstep hc
            go_wp2_with fail
            refine (cN _).mono ?_
            rintro e w' ⟨rfl, rfl⟩
            go_wp2_with fail
            go_ret2
            have h8 := HR.out
            rw [HD.out] at h8
            cases h8
            exact ⟨rfl, Below.refl _ _⟩
          · rw [if_neg hbig] at hgo
            have HG := Lib.hid (hgo _ _ _ rfl)
            have hv0 : 0 ≤ v := by omega
            clear hdead hgo hstep hc
            go_wp2_with fail
            go_round
            case rel => exact ⟨i + 1, u, v, fr, by omega, by go_num, rfl, rfl, rfl, hu, by omega, by omega, by omega, by omega, HG.out⟩
            case measure => first | (simp [intOf]; done) | (simp [intOf]; omega)
        · by_cases h45 : c = 45
          · have hx45 : x = 45 := (u8_eq x 45 (by decide)).2 (by rw [hc]; exact h45)
            rw [hx45, step_dash] at hdead hgo
            subst h45
            by_cases hok : 0 ≤ nn ∧ fr < 0
            · rw [if_pos hok] at hgo
              have HG := Lib.hid (hgo _ _ _ rfl)
              obtain ⟨hn0, hf0⟩ := hok
              clear hdead hgo hc hx45
              go_wp2_with fail
              go_round
              case rel => exact ⟨i + 1, u, -1, nn, by omega, by go_num, rfl, rfl, rfl, hu, by omega, by omega, by omega, by omega, HG.out⟩
              case measure => first | (simp [intOf]; done) | (simp [intOf]; omega)
            · rw [if_neg hok] at hdead
              have HD := Lib.hid (hdead rfl)
              have hcase : nn < 0 ∨ (0 ≤ nn ∧ 0 ≤ fr) := by omega
              clear hdead hgo hc hx45 hok
              rcases hcase with hn0 | ⟨hn0, hf0⟩
              all_goals
                go_wp2_with fail
                refine (cN _).mono ?_
                rintro e w' ⟨rfl, rfl⟩
                go_wp2_with fail
                go_ret2
                have h8 := HR.out
                rw [HD.out] at h8
                cases h8
                exact ⟨rfl, Below.refl _ _⟩
          · by_cases h44 : c = 44
            · have hx44 : x = 44 := (u8_eq x 44 (by decide)).2 (by rw [hc]; exact h44)
              rw [hx44] at hdead hgo
              subst h44
              clear hc hx44 h45 hcls
              rw [step_comma] at hdead hgo
              by_cases hn0 : 0 ≤ nn
              · rw [if_pos hn0] at hgo
                have HG := Lib.hid (hgo _ _ _ rfl)
                obtain ⟨m, rfl⟩ : ∃ m : Nat, nn = m := ⟨nn.toNat, by omega⟩
                have hm0 : ¬ ((m : Int) < 0) := by omega
                have hm63 : m ≤ 63 := by omega
                clear hdead hgo
                obtain ⟨fs, hfs, hfs63, hcase⟩ : ∃ fs : Nat, (if fr < 0 then (m : Int) else fr) = fs ∧ fs ≤ 63 ∧ ((fr < 0 ∧ m = fs) ∨ (¬ fr < 0 ∧ fr = fs)) := by
                  by_cases h : fr < 0
                  · exact ⟨m, by rw [if_pos h], hm63, .inl ⟨h, rfl⟩⟩
                  · exact ⟨fr.toNat, by rw [if_neg h]; omega, by omega, .inr ⟨h, by omega⟩⟩
                have HG2 : Hid (RefAt t (i + 1) (addTo u fs (m + 1)) (-1) (-1)) := Lib.hid (by have := HG.out; rw [hfs, Int.toNat_natCast, Int.toNat_natCast] at this; exact this)
                clear HG hfs
                rcases hcase with ⟨hf0, hfe⟩ | ⟨hf0, hfe⟩
                · subst hfe
                  go_wp2_with fail
                  go_loop [4, 9] (fun s k => ∃ (q v : Nat), m ≤ q ∧ (q ≤ m + 1 ∨ q = m) ∧ k = .int .i64 q ∧ s = .int .u64 v ∧ v < 18446744073709551616 ∧ addTo u m q = v) (fun _ k => 65 - (intOf k).toNat)
                  case atStart => exact ⟨m, u, Nat.le_refl _, .inr rfl, rfl, rfl, hu, addTo_same u m⟩
                  case round =>
                    obtain ⟨q, v, hq1, hq2, rfl, rfl, hv, hadd⟩ := hrel
                    by_cases hqm : q ≤ m
                    · have hq64 : q < 64 := by omega
                      have hstep := addTo_succ u m q hq1
                      rw [hadd] at hstep
                      have cH := fun W => ref_has v q _ hv (hasN_nat v q hq64) W
                      obtain ⟨p, hp⟩ : ∃ p, 2 ^ q = p := ⟨_, rfl⟩
                      have cO := ref_one q p hq64 hp
                      cases hb : v.testBit q with
                      | true =>
                        rw [hb] at cH
                        have hsame := or_same hb
                        rw [hsame] at hstep
                        have HS := Lib.hid hstep
                        clear hstep hsame hadd hb hp
                        go_wp2_with fail
                        refine (cH _).mono ?_
                        rintro e w' ⟨rfl, rfl⟩
                        go_wp2_with fail
                        go_round
                        case rel => exact ⟨q + 1, v, by omega, .inl (by omega), by go_num, rfl, hv, HS.out⟩
                        case measure => first | (simp [intOf]; done) | (simp [intOf]; omega)
                      | false =>
                        rw [hb] at cH
                        have hsum := add_one hv hq64 hb
                        rw [hp] at hsum hstep
                        obtain ⟨z, hz⟩ : ∃ z, v ||| p = z := ⟨_, rfl⟩
                        have hz2 : z < 18446744073709551616 := by rw [← hz]; exact or_lt hv (by rw [← hp]; exact one_lt hq64)
                        have hwr : IntKind.u64.wrap ((v : Int) + (p : Int)) = (z : Int) := by
                          have := wrap_nat z hz2
                          rw [← hz, ← hsum, Int.natCast_add] at this
                          rw [this, ← Int.natCast_add, hsum, hz]
                        rw [hz] at hstep
                        have HS := Lib.hid hstep
                        clear hstep hsum hadd hb hp hz
                        go_wp2_with fail
                        refine (cH _).mono ?_
                        rintro e w' ⟨rfl, rfl⟩
                        go_wp2_with fail
                        refine (cO _).mono ?_
                        rintro e w' ⟨rfl, rfl⟩
                        go_wp2_with fail
                        go_round
                        case rel => exact ⟨q + 1, z, by omega, .inl (by omega), by go_num, rfl, hz2, HS.out⟩
                        case measure => first | (simp [intOf]; done) | (simp [intOf]; omega)
                    · have hfin : addTo u m (m + 1) = v := by
                        rw [← hadd]
                        rcases hq2 with h | h
                        · rw [show q = m + 1 by omega]
                        · rw [h, addTo_same]; unfold addTo; rw [show m + 1 - m = 0 by omega]; rfl
                      rw [hfin] at HG2
                      clear hfin hadd
                      go_wp2_with fail
                      go_round
                      case rel => exact ⟨i + 1, v, -1, -1, by omega, by go_num, rfl, rfl, rfl, hv, by omega, by omega, by omega, by omega, HG2.out⟩
                      case measure => first | (simp [intOf]; done) | (simp [intOf]; omega)
                · subst hfe
                  have hf1' : ¬ ((fs : Int) < 0) := hf0
                  go_wp2_with fail
                  go_loop [4, 9] (fun s k => ∃ (q v : Nat), fs ≤ q ∧ (q ≤ m + 1 ∨ q = fs) ∧ k = .int .i64 q ∧ s = .int .u64 v ∧ v < 18446744073709551616 ∧ addTo u fs q = v) (fun _ k => 65 - (intOf k).toNat)
                  case atStart => exact ⟨fs, u, Nat.le_refl _, .inr rfl, rfl, rfl, hu, addTo_same u fs⟩
                  case round =>
                    obtain ⟨q, v, hq1, hq2, rfl, rfl, hv, hadd⟩ := hrel
                    by_cases hqm : q ≤ m
                    · have hq64 : q < 64 := by omega
                      have hstep := addTo_succ u fs q hq1
                      rw [hadd] at hstep
                      have cH := fun W => ref_has v q _ hv (hasN_nat v q hq64) W
                      obtain ⟨p, hp⟩ : ∃ p, 2 ^ q = p := ⟨_, rfl⟩
                      have cO := ref_one q p hq64 hp
                      cases hb : v.testBit q with
                      | true =>
                        rw [hb] at cH
                        have hsame := or_same hb
                        rw [hsame] at hstep
                        have HS := Lib.hid hstep
                        clear hstep hsame hadd hb hp
                        go_wp2_with fail
                        refine (cH _).mono ?_
                        rintro e w' ⟨rfl, rfl⟩
                        go_wp2_with fail
                        go_round
                        case rel => exact ⟨q + 1, v, by omega, .inl (by omega), by go_num, rfl, hv, HS.out⟩
                        case measure => first | (simp [intOf]; done) | (simp [intOf]; omega)
                      | false =>
                        rw [hb] at cH
                        have hsum := add_one hv hq64 hb
                        rw [hp] at hsum hstep
                        obtain ⟨z, hz⟩ : ∃ z, v ||| p = z := ⟨_, rfl⟩
                        have hz2 : z < 18446744073709551616 := by rw [← hz]; exact or_lt hv (by rw [← hp]; exact one_lt hq64)
                        have hwr : IntKind.u64.wrap ((v : Int) + (p : Int)) = (z : Int) := by
                          have := wrap_nat z hz2
                          rw [← hz, ← hsum, Int.natCast_add] at this
                          rw [this, ← Int.natCast_add, hsum, hz]
                        rw [hz] at hstep
                        have HS := Lib.hid hstep
                        clear hstep hsum hadd hb hp hz
                        go_wp2_with fail
                        refine (cH _).mono ?_
                        rintro e w' ⟨rfl, rfl⟩
                        go_wp2_with fail
                        refine (cO _).mono ?_
                        rintro e w' ⟨rfl, rfl⟩
                        go_wp2_with fail
                        go_round
                        case rel => exact ⟨q + 1, z, by omega, .inl (by omega), by go_num, rfl, hz2, HS.out⟩
                        case measure => first | (simp [intOf]; done) | (simp [intOf]; omega)
                    · have hfin : addTo u fs (m + 1) = v := by
                        rw [← hadd]
                        rcases hq2 with h | h
                        · rw [show q = m + 1 by omega]
                        · rw [h, addTo_same]; unfold addTo; rw [show m + 1 - fs = 0 by omega]; rfl
                      rw [hfin] at HG2
                      clear hfin hadd
                      go_wp2_with fail
                      go_round
                      case rel => exact ⟨i + 1, v, -1, -1, by omega, by go_num, rfl, rfl, rfl, hv, by omega, by omega, by omega, by omega, HG2.out⟩
                      case measure => first | (simp [intOf]; done) | (simp [intOf]; omega)
              · rw [if_neg hn0] at hdead
                have HD := Lib.hid (hdead rfl)
                have hn9 : nn < 0 := by omega
                clear hdead hgo
                go_wp2_with fail
                refine (cN _).mono ?_
                rintro e w' ⟨rfl, rfl⟩
                go_wp2_with fail
                go_ret2
                have h8 := HR.out
                rw [HD.out] at h8
                cases h8
                exact ⟨rfl, Below.refl _ _⟩
            · have hstep := step_other u nn fr x (by omega) (by omega) (by omega)
              have HD := Lib.hid (hdead hstep)
              have hcl : c < 48 ∨ (48 ≤ c ∧ 57 < c) := by omega
              clear hdead hgo hc hstep hcls
              rcases hcl with hcl | ⟨hcl, hcu⟩
              all_goals
                go_wp2_with fail
                refine (cN _).mono ?_
                rintro e w' ⟨rfl, rfl⟩
                go_wp2_with fail
                go_ret2
                have h8 := HR.out
                rw [HD.out] at h8
                cases h8
                exact ⟨rfl, Below.refl _ _⟩
      · obtain rfl : i = len := by omega
        have hend := byteC_end t
        rw [HLEN.out] at hend
        rw [hend] at hdead hgo
        clear hend hat
        rw [step_comma] at hdead hgo
        by_cases hn0 : 0 ≤ nn
        · rw [if_pos hn0] at hgo
          have HG := Lib.hid (hgo _ _ _ rfl)
          obtain ⟨m, rfl⟩ : ∃ m : Nat, nn = m := ⟨nn.toNat, by omega⟩
          have hm0 : ¬ ((m : Int) < 0) := by omega
          have hm63 : m ≤ 63 := by omega
          clear hdead hgo
          obtain ⟨fs, hfs, hfs63, hcase⟩ : ∃ fs : Nat, (if fr < 0 then (m : Int) else fr) = fs ∧ fs ≤ 63 ∧ ((fr < 0 ∧ m = fs) ∨ (¬ fr < 0 ∧ fr = fs)) := by
            by_cases h : fr < 0
            · exact ⟨m, by rw [if_pos h], hm63, .inl ⟨h, rfl⟩⟩
            · exact ⟨fr.toNat, by rw [if_neg h]; omega, by omega, .inr ⟨h, by omega⟩⟩
          have HG2 : Hid (RefAt t (i + 1) (addTo u fs (m + 1)) (-1) (-1)) := Lib.hid (by have := HG.out; rw [hfs, Int.toNat_natCast, Int.toNat_natCast] at this; exact this)
          clear HG hfs
          rcases hcase with ⟨hf0, hfe⟩ | ⟨hf0, hfe⟩
          · subst hfe
            go_wp2_with fail
            go_loop [4, 9] (fun s k => ∃ (q v : Nat), m ≤ q ∧ (q ≤ m + 1 ∨ q = m) ∧ k = .int .i64 q ∧ s = .int .u64 v ∧ v < 18446744073709551616 ∧ addTo u m q = v) (fun _ k => 65 - (intOf k).toNat)
            case atStart => exact ⟨m, u, Nat.le_refl _, .inr rfl, rfl, rfl, hu, addTo_same u m⟩
            case round =>
              obtain ⟨q, v, hq1, hq2, rfl, rfl, hv, hadd⟩ := hrel
              by_cases hqm : q ≤ m
              · have hq64 : q < 64 := by omega
                have hstep := addTo_succ u m q hq1
                rw [hadd] at hstep
                have cH := fun W => ref_has v q _ hv (hasN_nat v q hq64) W
                obtain ⟨p, hp⟩ : ∃ p, 2 ^ q = p := ⟨_, rfl⟩
                have cO := ref_one q p hq64 hp
                cases hb : v.testBit q with
                | true =>
                  rw [hb] at cH
                  have hsame := or_same hb
                  rw [hsame] at hstep
                  have HS := Lib.hid hstep
                  clear hstep hsame hadd hb hp
                  go_wp2_with fail
                  refine (cH _).mono ?_
                  rintro e w' ⟨rfl, rfl⟩
                  go_wp2_with fail
                  go_round
                  case rel => exact ⟨q + 1, v, by omega, .inl (by omega), by go_num, rfl, hv, HS.out⟩
                  case measure => first | (simp [intOf]; done) | (simp [intOf]; omega)
                | false =>
                  rw [hb] at cH
                  have hsum := add_one hv hq64 hb
                  rw [hp] at hsum hstep
                  obtain ⟨z, hz⟩ : ∃ z, v ||| p = z := ⟨_, rfl⟩
                  have hz2 : z < 18446744073709551616 := by rw [← hz]; exact or_lt hv (by rw [← hp]; exact one_lt hq64)
                  have hwr : IntKind.u64.wrap ((v : Int) + (p : Int)) = (z : Int) := by
                    have := wrap_nat z hz2
                    rw [← hz, ← hsum, Int.natCast_add] at this
                    rw [this, ← Int.natCast_add, hsum, hz]
                  rw [hz] at hstep
                  have HS := Lib.hid hstep
                  clear hstep hsum hadd hb hp hz
                  go_wp2_with fail
                  refine (cH _).mono ?_
                  rintro e w' ⟨rfl, rfl⟩
                  go_wp2_with fail
                  refine (cO _).mono ?_
                  rintro e w' ⟨rfl, rfl⟩
                  go_wp2_with fail
                  go_round
                  case rel => exact ⟨q + 1, z, by omega, .inl (by omega), by go_num, rfl, hz2, HS.out⟩
                  case measure => first | (simp [intOf]; done) | (simp [intOf]; omega)
              · have hfin : addTo u m (m + 1) = v := by
                  rw [← hadd]
                  rcases hq2 with h | h
                  · rw [show q = m + 1 by omega]
                  · rw [h, addTo_same]; unfold addTo; rw [show m + 1 - m = 0 by omega]; rfl
                rw [hfin] at HG2
                clear hfin hadd
                go_wp2_with fail
                go_round
                case rel => exact ⟨i + 1, v, -1, -1, by omega, by go_num, rfl, rfl, rfl, hv, by omega, by omega, by omega, by omega, HG2.out⟩
                case measure => first | (simp [intOf]; done) | (simp [intOf]; omega)
          · subst hfe
            have hf1' : ¬ ((fs : Int) < 0) := hf0
            go_wp2_with fail
            go_loop [4, 9] (fun s k => ∃ (q v : Nat), fs ≤ q ∧ (q ≤ m + 1 ∨ q = fs) ∧ k = .int .i64 q ∧ s = .int .u64 v ∧ v < 18446744073709551616 ∧ addTo u fs q = v) (fun _ k => 65 - (intOf k).toNat)
            case atStart => exact ⟨fs, u, Nat.le_refl _, .inr rfl, rfl, rfl, hu, addTo_same u fs⟩
            case round =>
              obtain ⟨q, v, hq1, hq2, rfl, rfl, hv, hadd⟩ := hrel
              by_cases hqm : q ≤ m
              · have hq64 : q < 64 := by omega
                have hstep := addTo_succ u fs q hq1
                rw [hadd] at hstep
                have cH := fun W => ref_has v q _ hv (hasN_nat v q hq64) W
                obtain ⟨p, hp⟩ : ∃ p, 2 ^ q = p := ⟨_, rfl⟩
                have cO := ref_one q p hq64 hp
                cases hb : v.testBit q with
                | true =>
                  rw [hb] at cH
                  have hsame := or_same hb
                  rw [hsame] at hstep
                  have HS := Lib.hid hstep
                  clear hstep hsame hadd hb hp
                  go_wp2_with fail
                  refine (cH _).mono ?_
                  rintro e w' ⟨rfl, rfl⟩
                  go_wp2_with fail
                  go_round
                  case rel => exact ⟨q + 1, v, by omega, .inl (by omega), by go_num, rfl, hv, HS.out⟩
                  case measure => first | (simp [intOf]; done) | (simp [intOf]; omega)
                | false =>
                  rw [hb] at cH
                  have hsum := add_one hv hq64 hb
                  rw [hp] at hsum hstep
                  obtain ⟨z, hz⟩ : ∃ z, v ||| p = z := ⟨_, rfl⟩
                  have hz2 : z < 18446744073709551616 := by rw [← hz]; exact or_lt hv (by rw [← hp]; exact one_lt hq64)
                  have hwr : IntKind.u64.wrap ((v : Int) + (p : Int)) = (z : Int) := by
                    have := wrap_nat z hz2
                    rw [← hz, ← hsum, Int.natCast_add] at this
                    rw [this, ← Int.natCast_add, hsum, hz]
                  rw [hz] at hstep
                  have HS := Lib.hid hstep
                  clear hstep hsum hadd hb hp hz
                  go_wp2_with fail
                  refine (cH _).mono ?_
                  rintro e w' ⟨rfl, rfl⟩
                  go_wp2_with fail
                  refine (cO _).mono ?_
                  rintro e w' ⟨rfl, rfl⟩
                  go_wp2_with fail
                  go_round
                  case rel => exact ⟨q + 1, z, by omega, .inl (by omega), by go_num, rfl, hz2, HS.out⟩
                  case measure => first | (simp [intOf]; done) | (simp [intOf]; omega)
              · have hfin : addTo u fs (m + 1) = v := by
                  rw [← hadd]
                  rcases hq2 with h | h
                  · rw [show q = m + 1 by omega]
                  · rw [h, addTo_same]; unfold addTo; rw [show m + 1 - fs = 0 by omega]; rfl
                rw [hfin] at HG2
                clear hfin hadd
                go_wp2_with fail
                go_round
                case rel => exact ⟨i + 1, v, -1, -1, by omega, by go_num, rfl, rfl, rfl, hv, by omega, by omega, by omega, by omega, HG2.out⟩
                case measure => first | (simp [intOf]; done) | (simp [intOf]; omega)
        · rw [if_neg hn0] at hdead
          have HD := Lib.hid (hdead rfl)
          have hn9 : nn < 0 := by omega
          clear hdead hgo
          go_wp2_with fail
          refine (cN _).mono ?_
          rintro e w' ⟨rfl, rfl⟩
          go_wp2_with fail
          go_ret2
          have h8 := HR.out
          rw [HD.out] at h8
          cases h8
          exact ⟨rfl, Below.refl _ _⟩
    · obtain rfl : i = len + 1 := by omega
      have hall : (t ++ [44]).take (len + 1) = t ++ [44] := by rw [← HLEN.out, List.take_of_length_le (by simp)]
      have hres : refReadN t = if textB u = t then (u, true) else (0, t == noneB) := by
        unfold RefAt at hat
        rw [hall] at hat
        unfold refReadN
        rw [hat]
      obtain ⟨tx, htx⟩ : ∃ tx, strB (textB u) = tx := ⟨_, rfl⟩
      have cS := ref_show u tx hu htx
      by_cases heq : textB u = t
      · rw [if_pos heq] at hres
        have HD := Lib.hid hres
        have hts : tx = ts := by rw [← htx, heq]; exact HTS.out
        subst hts
        clear hres hall hat heq htx
        go_wp2_with fail
        refine (cS _).mono ?_
        rintro e w2 ⟨rfl, hb⟩
        go_wp2_with fail
        go_ret2
        have h8 := HR.out
        rw [HD.out] at h8
        cases h8
        exact ⟨rfl, hb⟩
      · rw [if_neg heq] at hres
        have HD := Lib.hid hres
        have hne : (tx.toList == ts.toList) = false := by
          rw [← htx, ← HTS.out, Lib.toList_data, Lib.toList_data]
          simp only [beq_eq_false_iff_ne, ne_eq]
          exact heq
        clear hres hall hat heq htx
        go_wp2_with fail
        refine (cS _).mono ?_
        rintro e w2 ⟨rfl, hb⟩
        go_wp2_with fail
        refine (cN _).mono ?_
        rintro e w' ⟨rfl, rfl⟩
        go_wp2_with fail
        go_ret2
        have h8 := HR.out
        rw [HD.out] at h8
        cases h8
        exact ⟨rfl, hb⟩
end Go.Proofs.YthmccldkknhejaaDoor

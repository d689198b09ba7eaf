/- The document's own answers for layer 1's Pack and Unpack: what each comes to. -/
import Derived.Test.YtafdaeenjjokiaaDoorRc
import Derived.Deep.QuietTactic
import Derived.BigQuiet
namespace Go.Proofs.YtafdaeenjjokiaaDoor
open Go.RowKit Go.Deep

def RW2 (ws : List Int) (k : Nat) : Prop := (∀ x ∈ ws.take k, 1 ≤ x ∧ x ≤ 63) ∧ 0 ≤ sumI (ws.take k) ∧ sumI (ws.take k) ≤ 127
theorem rw2_step (ws : List Int) (k : Nat) (x : Int) (hlt : k < ws.length) (hx : ws[k]?.getD 0 = x) (h : RW2 ws k) (h1 : 1 ≤ x ∧ x ≤ 63) (h2 : sumI (ws.take k) ≤ 64) : RW2 ws (k + 1) := by
  have hs := sum_take ws k hlt
  rw [hx] at hs
  refine ⟨?_, by have := h.2.1; omega, by omega⟩
  rw [List.take_succ_eq_append_getElem hlt]
  intro y hy
  rcases List.mem_append.1 hy with hy | hy
  · exact h.1 y hy
  · simp [hlt] at hx hy; subst hy; subst hx; exact h1
theorem rw2_end (ws : List Int) (h : RW2 ws ws.length) : okW ws = decide (sumI ws ≤ 64) := by
  have h1 := h.1
  rw [List.take_length] at h1
  by_cases h2 : sumI ws ≤ 64
  · rw [(okW_iff ws).2 ⟨h1, h2⟩]; simp [h2]
  · have : okW ws = false := by
      rw [Bool.eq_false_iff]; intro e; exact h2 ((okW_iff ws).1 e).2
    rw [this]; simp [h2]

set_option maxHeartbeats 1000000 in
theorem right_core (A : Option Addr) (ws : List Int) (c l : Nat) (o : Bool) (hll : Hid (ws.length = l)) (hl : l ≤ 100) (H : Hid (okW ws = o)) (w : World) (h : Ints .i64 w.heap.size w A ws) :
    Calls Tryd.prog 46 #[.slice A l c] w fun e w' => e = .returned (.bool o) ∧ w = w' := by
  go_enter Tryd.func46, Tryd.ntmps46
  go_wp2
  go_loop [3, 4] (fun s i => ∃ k : Nat, k ≤ l ∧ i = .int .i64 k ∧ s = .int .i64 (sumI (ws.take k)) ∧ RW2 ws k) (fun _ i => l - (intOf i).toNat)
  case atStart => exact ⟨0, Nat.zero_le _, rfl, rfl, by simp, by simp [sumI], by simp [sumI]⟩
  case round =>
    obtain ⟨k, hk, rfl, rfl, hr⟩ := hrel
    have hs1 := hr.2.1
    have hs2 := hr.2.2
    by_cases hlt : k < l
    · have hlt' : k < ws.length := by have := hll.out; omega
      obtain ⟨b, off, rfl, hb, hc⟩ := h (by omega)
      have hck := hc k hlt'
      have hst := Lib.hid (sum_take ws k hlt')
      have hmm := Lib.hid (show ws[k]?.getD 0 ∈ ws by simp [hlt'])
      have hov := Lib.hid (okW_over ws k)
      have hstep := Lib.hid (fun x hx h1 h2 => rw2_step ws k x hlt' hx hr h1 h2)
      clear hc
      generalize sumI (ws.take k) = s at *
      generalize hx : ws[k]?.getD 0 = x at *
      clear hx hlt'
      by_cases h1 : x < 1
      · go_wp2
        go_ret
        exact ⟨by rw [← H.out, okW_bad ws x hmm.out (by omega)]; rfl, rfl⟩
      · by_cases h2 : 63 < x
        · go_wp2
          go_ret
          exact ⟨by rw [← H.out, okW_bad ws x hmm.out (by omega)]; rfl, rfl⟩
        · by_cases h3 : 64 < s
          · go_wp2
            go_ret
            exact ⟨by rw [← H.out, hov.out h3]; rfl, rfl⟩
          · go_wp2
            go_round
            case rel => exact ⟨k + 1, by omega, by go_num, by rw [hst.out], hstep.out x rfl (by omega) (by omega)⟩
            case measure => simp [intOf]; omega
    · have hkl : k = ws.length := by have := hll.out; omega
      have he := Lib.hid (rw2_end ws (by rw [← hkl]; exact hr))
      have hs3 := Lib.hid (show sumI (ws.take k) = sumI ws by rw [hkl, List.take_length])
      clear hkl
      generalize sumI (ws.take k) = s at *
      go_wp2
      go_ret
      exact ⟨by rw [← H.out, he.out, ← hs3.out]; rfl, rfl⟩

theorem right_any (A : Option Addr) (ws : List Int) (c l : Nat) (hll : ws.length = l) (hl : l ≤ 100) (w : World) (h : Ints .i64 w.heap.size w A ws) :
    Calls Tryd.prog 46 #[.slice A l c] w fun e w' => e = .returned (.bool (okW ws)) ∧ w = w' := right_core A ws c l _ (Lib.hid hll) hl (Lib.hid rfl) w h

theorem shl_step (r : Nat) : IntKind.u64.wrap ((r : Int) * 2) = ((r * 2 % 18446744073709551616 : Nat) : Int) := by rw [IntKind.wrap_u64]; omega
theorem shl_next (v j : Nat) : v * 2 ^ j % 18446744073709551616 * 2 % 18446744073709551616 = v * 2 ^ (j + 1) % 18446744073709551616 := by
  rw [Nat.pow_succ, ← Nat.mul_assoc]
  generalize v * 2 ^ j = x
  omega

set_option maxHeartbeats 1000000 in
theorem shift_core (v k q : Nat) (hv : v < 9223372036854775808) (hk : k ≤ 64) (H : Hid (v * 2 ^ k % 18446744073709551616 = q)) (w : World) :
    Calls Tryd.prog 47 #[.int .i64 v, .int .i64 k] w fun e w' => e = .returned (.int .u64 (q : Int)) ∧ w = w' := by
  have hv2 : v % 18446744073709551616 = v := by omega
  go_enter Tryd.func47, Tryd.ntmps47
  go_wp2
  go_loop [5, 6] (fun r i => ∃ j : Nat, j ≤ k ∧ i = .int .i64 j ∧ r = .int .u64 ((v * 2 ^ j % 18446744073709551616 : Nat) : Int)) (fun _ i => k - (intOf i).toNat)
  case atStart => exact ⟨0, Nat.zero_le _, rfl, by rw [Nat.pow_zero, Nat.mul_one, hv2]⟩
  case round =>
    obtain ⟨j, hj, rfl, rfl⟩ := hrel
    by_cases hlt : j < k
    · have hn := Lib.hid (shl_next v j)
      have hr := Nat.mod_lt (v * 2 ^ j) (show 0 < 18446744073709551616 by decide)
      generalize v * 2 ^ j % 18446744073709551616 = r at *
      have hs := shl_step r
      generalize r * 2 % 18446744073709551616 = r' at *
      go_wp2
      go_round
      case rel => exact ⟨j + 1, by omega, by go_num, by rw [← hn.out]⟩
      case measure => simp [intOf]; omega
    · obtain rfl : j = k := by omega
      rw [H.out]
      go_wp2
      go_ret
      exact ⟨rfl, rfl⟩
theorem shift_any (v k : Nat) (hv : v < 9223372036854775808) (hk : k ≤ 64) (w : World) :
    Calls Tryd.prog 47 #[.int .i64 v, .int .i64 k] w fun e w' => e = .returned (.int .u64 ((v * 2 ^ k % 18446744073709551616 : Nat) : Int)) ∧ w = w' := shift_core v k _ hv hk (Lib.hid rfl) w

/-! ### Pack -/
theorem packN_snoc (ws vs : List Int) (x v : Int) (hl : ws.length = vs.length) (hw : ∀ y ∈ ws, 1 ≤ y ∧ y ≤ 63) : packN (ws ++ [x]) (vs ++ [v]) = packN ws vs + v.toNat * 2 ^ (sumI ws).toNat := by
  induction ws generalizing vs with
  | nil => cases vs with
    | nil => simp [packN, sumI]
    | cons v vs => simp at hl
  | cons y ws ih =>
    cases vs with
    | nil => simp at hl
    | cons v' vs =>
      have hw' : ∀ z ∈ ws, 1 ≤ z ∧ z ≤ 63 := fun z hz => hw z (by simp [hz])
      have hy := hw y (by simp)
      have hs := sumI_pos ws hw'
      rw [List.cons_append, List.cons_append, packN_cons, packN_cons, ih vs (by simpa using hl) hw', show (sumI (y :: ws)).toNat = y.toNat + (sumI ws).toNat by simp only [sumI]; omega, Nat.pow_add, Nat.mul_add, ← Nat.mul_assoc, Nat.mul_comm (2 ^ y.toNat) v.toNat, Nat.mul_assoc]
      omega
theorem take_snoc (zs : List Int) (k : Nat) (h : k < zs.length) : zs.take (k + 1) = zs.take k ++ [zs[k]?.getD 0] := by
  rw [List.take_succ_eq_append_getElem h]; simp [h]
theorem okVs_snoc (ws vs : List Int) (x v : Int) (h : okVs ws vs = true) (h2 : okV x v = true) : okVs (ws ++ [x]) (vs ++ [v]) = true := by
  induction ws generalizing vs with
  | nil => cases vs with
    | nil => simp [okVs, h2]
    | cons v vs => simp [okVs] at h
  | cons y ws ih =>
    cases vs with
    | nil => simp [okVs] at h
    | cons v' vs => simp only [okVs, Bool.and_eq_true, List.cons_append] at h ⊢; exact ⟨h.1, ih vs h.2⟩

/-- The numbers ahead of place k fit; the word that they come to. -/
def PK (ws vs : List Int) (k : Nat) : Prop := okVs (ws.take k) (vs.take k) = true
theorem pk_step (ws vs : List Int) (k : Nat) (ho : okW ws = true) (hl : ws.length = vs.length) (hk : k < ws.length) (h : PK ws vs k) (h2 : okV (ws[k]?.getD 0) (vs[k]?.getD 0) = true) :
    PK ws vs (k + 1) ∧ packN (ws.take (k + 1)) (vs.take (k + 1)) = packN (ws.take k) (vs.take k) + (vs[k]?.getD 0).toNat * 2 ^ (sumI (ws.take k)).toNat ∧
    packN (ws.take k) (vs.take k) + (vs[k]?.getD 0).toNat * 2 ^ (sumI (ws.take k)).toNat < 18446744073709551616 := by
  have hw : ∀ y ∈ ws.take k, 1 ≤ y ∧ y ≤ 63 := fun y hy => ((okW_iff ws).1 ho).1 y (List.mem_of_mem_take hy)
  have e1 := take_snoc ws k hk
  have e2 := take_snoc vs k (by omega)
  have h3 : okVs (ws.take (k + 1)) (vs.take (k + 1)) = true := by rw [e1, e2]; exact okVs_snoc _ _ _ _ h h2
  have h4 : packN (ws.take (k + 1)) (vs.take (k + 1)) = packN (ws.take k) (vs.take k) + (vs[k]?.getD 0).toNat * 2 ^ (sumI (ws.take k)).toNat := by
    rw [e1, e2]; exact packN_snoc _ _ _ _ (by simp [hl]) hw
  refine ⟨h3, h4, ?_⟩
  rw [← h4]
  have h5 := packN_lt (ws.take (k + 1)) (vs.take (k + 1)) (fun y hy => ((okW_iff ws).1 ho).1 y (List.mem_of_mem_take hy)) h3
  have h6 := offN_le ws ho (k + 1)
  have h7 : 2 ^ (sumI (ws.take (k + 1))).toNat ≤ 2 ^ 64 := Nat.pow_le_pow_right (by decide) h6
  omega
theorem pk_bad (ws vs : List Int) (k : Nat) (hk : k < vs.length) (h2 : okV (ws[k]?.getD 0) (vs[k]?.getD 0) = false) : okVs ws vs = false := by
  rw [Bool.eq_false_iff]; intro h
  rw [okVs_at ws vs h k hk] at h2; cases h2
theorem pk_end (ws vs : List Int) (hl : ws.length = vs.length) (h : PK ws vs ws.length) : okVs ws vs = true ∧ packN (ws.take ws.length) (vs.take ws.length) = packN ws vs := by
  unfold PK at h
  rw [List.take_length] at h ⊢
  rw [hl, List.take_length] at h ⊢
  exact ⟨h, rfl⟩
/-- How the document's test on a number comes out. -/
theorem okV_small (x v : Int) (h3 : 0 ≤ v) : decide (((2 ^ x.toNat : Nat) : Int) ≤ v) = !okV x v := by
  have a := okV_iff x v
  cases h : okV x v
  · have : ¬ (0 ≤ v ∧ v.toNat < 2 ^ x.toNat) := fun hh => by rw [a.2 hh] at h; cases h
    simp only [Bool.not_false, decide_eq_true_eq]
    omega
  · have := a.1 h
    simp only [Bool.not_true, decide_eq_false_iff_not]
    omega
theorem okV_63 (v : Int) (h3 : 0 ≤ v) (h4 : v < 9223372036854775808) : okV 63 v = true := (okV_iff 63 v).2 ⟨h3, by show v.toNat < 9223372036854775808; omega⟩
theorem okV_neg (x v : Int) (h : v < 0) : okV x v = false := by
  rw [Bool.eq_false_iff]; intro e; have := ((okV_iff x v).1 e).1; omega

set_option maxHeartbeats 1000000 in
theorem refPack_bad (A A' : Option Addr) (ws : List Int) (c c' l l' : Nat) (hll : ws.length = l) (hl : l ≤ 100) (ho : okW ws = false) (w : World) (h : Ints .i64 w.heap.size w A ws) :
    Calls Tryd.prog 28 #[.slice A l c, .slice A' l' c'] w fun e w' => e = .returned (.tuple #[.int .u64 0, .bool false]) ∧ w = w' := by
  have H := Lib.hid (right_any A ws c l hll hl w h)
  rw [ho] at H
  clear ho hll
  go_enter Tryd.func28, Tryd.ntmps28
  go_wp2_with (go_at_call 46; refine H.out.mono ?_; clear H; rintro e w' ⟨rfl, rfl⟩)
  go_ret2
  exact ⟨rfl, rfl⟩
set_option maxHeartbeats 1000000 in
theorem refPack_len (A A' : Option Addr) (ws : List Int) (c c' l l' : Nat) (hll : ws.length = l) (hl : l ≤ 100) (_hl' : l' ≤ 100) (ho : okW ws = true) (hne : l ≠ l') (w : World) (h : Ints .i64 w.heap.size w A ws) :
    Calls Tryd.prog 28 #[.slice A l c, .slice A' l' c'] w fun e w' => e = .returned (.tuple #[.int .u64 0, .bool false]) ∧ w = w' := by
  have H := Lib.hid (right_any A ws c l hll hl w h)
  rw [ho] at H
  have hd : ((l' : Int) != (l : Int)) = true := by simp; omega
  clear ho hll hne
  go_enter Tryd.func28, Tryd.ntmps28
  go_wp2_with (go_at_call 46; refine H.out.mono ?_; clear H; rintro e w' ⟨rfl, rfl⟩)
  go_ret2
  exact ⟨rfl, rfl⟩

theorem Dr.drewN {w w' : World} (h : Dr w w') (n : Nat) : Dr w (w'.drewN n) := by
  obtain ⟨m, rfl⟩ := h
  exact Dr.of2 m n
theorem quiet_same {P : Program} {f : FuncId} {args : Array Value} {w : World} {n : Nat} {v : Value}
    (h : Calls P f args (w.drewN n) fun e w' => e = .returned v ∧ w.drewN n = w') : Calls P f args (w.drewN n) fun e w'' => e = .returned v ∧ ∃ m, w'' = w.drewN m :=
  h.mono fun _ _ ⟨he, hm⟩ => ⟨he, n, hm.symm⟩

def RefP (ws vs : List Int) (w : World) (e : Ending) (w' : World) : Prop :=
  e = .returned (.tuple #[.int .u64 ((if okVs ws vs then packN ws vs else 0 : Nat) : Int), .bool (okVs ws vs)]) ∧ Dr w w'

set_option maxHeartbeats 2000000 in
theorem refPack_good (A A' : Option Addr) (ws vs : List Int) (c c' l : Nat) (hll : ws.length = l) (hll' : vs.length = l) (hl : l ≤ 100) (ho : okW ws = true) (hv : i64s vs) (w : World) (h : Ints .i64 w.heap.size w A ws) (h' : Ints .i64 w.heap.size w A' vs) :
    Calls Tryd.prog 28 #[.slice A l c, .slice A' l c'] w (RefP ws vs w) := by
  have H := Lib.hid (right_any A ws c l hll hl w h)
  rw [ho] at H
  have HO := Lib.hid ho
  have HL := Lib.hid hll
  have HL' := Lib.hid hll'
  have hd : ((l : Int) != (l : Int)) = false := by simp
  clear ho hll hll'
  go_enter Tryd.func28, Tryd.ntmps28
  go_wp2_with (go_at_call 46; refine H.out.mono ?_; clear H; rintro e w' ⟨rfl, rfl⟩)
  go_loopw [6, 7, 8] (fun r s i wr => ∃ k : Nat, k ≤ l ∧ i = .int .i64 k ∧ r = .int .u64 ((packN (ws.take k) (vs.take k) : Nat) : Int) ∧ s = .int .i64 ((offN ws k : Nat) : Int) ∧ PK ws vs k ∧ Dr w wr) (fun _ _ i _ => l - (intOf i).toNat)
  case atStart => exact ⟨0, Nat.zero_le _, rfl, by simp [packN], by simp [offN, sumI], by simp [PK, okVs], Dr.refl w⟩
  case round =>
    obtain ⟨k, hk, rfl, rfl, rfl, hpk, hdr⟩ := hrel
    have HPK := Lib.hid hpk
    clear hpk
    by_cases hlt : k < l
    · have hlt1 : k < ws.length := by have := HL.out; omega
      have hlt2 : k < vs.length := by have := HL'.out; omega
      obtain ⟨b, off, rfl, hb, hc⟩ := h (by omega)
      obtain ⟨b', off', rfl, hb', hc'⟩ := h' (by omega)
      have hck : wr.cell? ⟨b, off + k, none⟩ = some (.int .i64 (ws[k]?.getD 0)) := by obtain ⟨n, rfl⟩ := hdr; exact hc k hlt1
      have hck' : wr.cell? ⟨b', off' + k, none⟩ = some (.int .i64 (vs[k]?.getD 0)) := by obtain ⟨n, rfl⟩ := hdr; exact hc' k hlt2
      obtain ⟨hx1, hx2⟩ := okW_at ws HO.out k hlt1
      obtain ⟨hv1, hv2⟩ := i64s_at vs hv k
      have hstep := Lib.hid (fun e => pk_step ws vs k HO.out (by rw [HL.out, HL'.out]) hlt1 HPK.out e)
      have hbad := Lib.hid (pk_bad ws vs k hlt2)
      have hoff := Lib.hid (offN_succ ws HO.out k hlt1)
      have hof2 := offN_le ws HO.out (k + 1)
      rw [hoff.out] at hof2
      rw [show (sumI (ws.take k)).toNat = offN ws k from rfl] at hstep
      clear hc hc' hlt1 hlt2
      generalize offN ws k = at0 at *
      generalize ws[k]?.getD 0 = x at *
      generalize vs[k]?.getD 0 = v at *
      by_cases hneg : v < 0
      · have HB := Lib.hid (hbad.out (okV_neg x v hneg))
        have hn : decide (v < 0) = true := by simpa using hneg
        go_wp2
        go_quiet (fail)
        go_wp2
        go_ret2
        exact ⟨by rw [HB.out]; rfl, hdr.drewN _⟩
      · have hpos : 0 ≤ v := by omega
        have hn : decide (v < 0) = false := by simpa using hneg
        by_cases h63 : x < 63
        · have hs := okV_small x v hpos
          have cp := power_gives x x.toNat (by omega) (by omega)
          have hpl : (2 : Nat) ^ x.toNat ≤ 4611686018427387904 := pow_le _ 62 (by omega)
          have h63b : decide (x < 63) = true := by simpa using h63
          generalize 2 ^ x.toNat = px at *
          cases HV : okV x v with
          | false =>
            have HB := Lib.hid (hbad.out HV)
            rw [HV, Bool.not_false] at hs
            clear HV hstep hbad
            go_wp2
            go_quiet ((go_at_call 38; exact quiet_same (cp _)))
            go_wp2
            go_ret2
            exact ⟨by rw [HB.out]; rfl, hdr.drewN _⟩
          | true =>
            rw [HV, Bool.not_true] at hs
            go_wp2
            go_quiet ((go_at_call 38; exact quiet_same (cp _)))
            go_wp2_with fail
            clear cp hs hn h63b hpl
            have HS := Lib.hid (hstep.out HV)
            have hofs : at0 ≤ 64 := by omega
            obtain ⟨vn, rfl⟩ : ∃ vn : Nat, v = vn := ⟨v.toNat, by omega⟩
            have csh := Lib.hid (shift_any vn at0 (by omega) hofs)
            have hsm := HS.out.2.2
            rw [Int.toNat_natCast] at hsm HS
            generalize packN (ws.take k) (vs.take k) = pk at *
            have hmod : vn * 2 ^ at0 % 18446744073709551616 = vn * 2 ^ at0 := Nat.mod_eq_of_lt (by omega)
            rw [hmod] at csh
            generalize hsh : vn * 2 ^ at0 = sh at *
            have hadd : IntKind.u64.wrap ((pk : Int) + (sh : Int)) = ((pk + sh : Nat) : Int) := by rw [IntKind.wrap_u64]; omega
            have HSH := Lib.hid hsh
            have hofn := hoff
            clear hmod hsh hstep hbad HV
            generalize hpp : pk + sh = pk' at *
            clear hpp
            go_wp2_with fail
            refine (csh.out _).mono ?_
            rintro e w' ⟨rfl, rfl⟩
            go_wp2
            go_roundw
            case rel => exact ⟨k + 1, by omega, by go_num, by rw [HS.out.2.1], by rw [hofn.out]; go_num, HS.out.1, hdr.drewN _⟩
            case measure => simp [intOf]; omega
        · have hx63 : x = 63 := by omega
          have HV : okV x v = true := by rw [hx63]; exact okV_63 v hpos hv2
          have h63b : decide (x < 63) = false := by simpa using h63
          clear hx63
          go_wp2
          go_quiet (fail)
          go_wp2_with fail
          clear hn h63b
          have HS := Lib.hid (hstep.out HV)
          have hofs : at0 ≤ 64 := by omega
          obtain ⟨vn, rfl⟩ : ∃ vn : Nat, v = vn := ⟨v.toNat, by omega⟩
          have csh := Lib.hid (shift_any vn at0 (by omega) hofs)
          have hsm := HS.out.2.2
          rw [Int.toNat_natCast] at hsm HS
          generalize packN (ws.take k) (vs.take k) = pk at *
          have hmod : vn * 2 ^ at0 % 18446744073709551616 = vn * 2 ^ at0 := Nat.mod_eq_of_lt (by omega)
          rw [hmod] at csh
          generalize hsh : vn * 2 ^ at0 = sh at *
          have hadd : IntKind.u64.wrap ((pk : Int) + (sh : Int)) = ((pk + sh : Nat) : Int) := by rw [IntKind.wrap_u64]; omega
          have HSH := Lib.hid hsh
          have hofn := hoff
          clear hmod hsh hstep hbad HV
          generalize hpp : pk + sh = pk' at *
          clear hpp
          go_wp2_with fail
          refine (csh.out _).mono ?_
          rintro e w' ⟨rfl, rfl⟩
          go_wp2
          go_roundw
          case rel => exact ⟨k + 1, by omega, by go_num, by rw [HS.out.2.1], by rw [hofn.out]; go_num, HS.out.1, hdr.drewN _⟩
          case measure => simp [intOf]; omega
    · have hkl : k = ws.length := by have := HL.out; omega
      have he := Lib.hid (pk_end ws vs (by rw [HL.out, HL'.out]) (by rw [← hkl]; exact HPK.out))
      rw [← hkl] at he
      clear hkl
      generalize packN (ws.take k) (vs.take k) = pk at *
      go_wp2
      go_ret2
      exact ⟨by rw [he.out.1, if_pos rfl, he.out.2]; rfl, hdr⟩
end Go.Proofs.YtafdaeenjjokiaaDoor

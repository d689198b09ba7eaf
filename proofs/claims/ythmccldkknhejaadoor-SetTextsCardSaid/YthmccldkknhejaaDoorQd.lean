/- The document's own Show (concordatref06): a set's text. -/
import Derived.Test.YthmccldkknhejaaDoorQc
namespace Go.Proofs.YthmccldkknhejaaDoor
open Go.RowKit Go.Deep
set_option linter.unusedVariables false

/-- The number at a place. -/
def atN (l : List Nat) (k : Nat) : Nat := l[k]?.getD 0
theorem intsN_at (l : List Nat) (k : Nat) : (intsN l)[k]?.getD 0 = ((atN l k : Nat) : Int) := by
  unfold intsN atN
  rw [List.getElem?_map]
  cases l[k]? <;> rfl
theorem drop_at {l : List Nat} {k : Nat} (h : k < l.length) : l.drop k = atN l k :: l.drop (k + 1) := by
  rw [List.drop_eq_getElem_cons h]; simp [atN, h]
/-- One stretch is taken off the front. -/
theorem runs_front (l : List Nat) (i : Nat) : ∀ d, i + d < l.length → (∀ m, i ≤ m → m < i + d → atN l (m + 1) = atN l m + 1) → (i + d + 1 = l.length ∨ atN l (i + d + 1) ≠ atN l (i + d) + 1) →
    runs (l.drop i) = (atN l i, atN l (i + d)) :: runs (l.drop (i + d + 1)) := by
  intro d
  induction d generalizing i with
  | zero =>
    intro h1 h2 h3
    simp only [Nat.add_zero] at h1 h3 ⊢
    rw [drop_at h1]
    rcases h3 with h3 | h3
    · have : l.drop (i + 1) = [] := List.drop_eq_nil_of_le (by omega)
      rw [this]; rfl
    · by_cases hlast : i + 1 < l.length
      · rw [drop_at hlast]
        obtain ⟨e, r, hr⟩ := runs_head (atN l (i + 1)) (l.drop (i + 1 + 1))
        rw [runs_step hr, if_neg h3, hr]
      · have : l.drop (i + 1) = [] := List.drop_eq_nil_of_le (by omega)
        rw [this]; rfl
  | succ d ih =>
    intro h1 h2 h3
    have hi : i + 1 < l.length := by omega
    have h4 := ih (i + 1) (by omega) (fun m hm1 hm2 => h2 m (by omega) (by omega)) (by rw [show i + 1 + d + 1 = i + (d + 1) + 1 by omega, show i + 1 + d = i + (d + 1) by omega]; exact h3)
    rw [show i + 1 + d = i + (d + 1) by omega] at h4
    have h5 := h2 i (Nat.le_refl _) (by omega)
    rw [drop_at (show i < l.length by omega), drop_at hi]
    rw [drop_at hi] at h4
    rw [runs_step h4, if_pos h5]
theorem row_at (l : List Nat) (i : Nat) : ∀ d, (∀ m, i ≤ m → m < i + d → atN l (m + 1) = atN l m + 1) → atN l (i + d) = atN l i + d := by
  intro d
  induction d with
  | zero => intro _; rfl
  | succ d ih =>
    intro h
    have h1 := ih (fun m h1 h2 => h m h1 (by omega))
    have h2 := h (i + d) (by omega) (by omega)
    rw [show i + (d + 1) = i + d + 1 by omega, h2, h1]; omega
/-- The text of the first j stretches. -/
def textTo (s j : Nat) : List UInt8 := Lib.join (((strs s).take j).map showR) [44]
theorem join_snoc : ∀ (ps : List (List UInt8)) (p : List UInt8), ps ≠ [] → Lib.join (ps ++ [p]) [44] = Lib.join ps [44] ++ 44 :: p
  | [], p, h => absurd rfl h
  | [q], p, _ => by rw [Lib.join_one, List.singleton_append, Lib.join_cons]; simp [Lib.joinTail]
  | q :: r :: rs, p, _ => by
    have ih := join_snoc (r :: rs) p (by simp)
    have e1 : ∀ (x : List UInt8) (y : List UInt8) (ys : List (List UInt8)), Lib.join (x :: y :: ys) [44] = x ++ 44 :: Lib.join (y :: ys) [44] := fun x y ys => by
      rw [Lib.join_cons, Lib.join_cons]; simp [Lib.joinTail]
    rw [List.cons_append, List.cons_append, e1, e1, ← List.cons_append, ih]
    simp
theorem textTo_succ {s j : Nat} {p : Nat × Nat} (h : (strs s)[j]? = some p) : textTo s (j + 1) = if j = 0 then showR p else textTo s j ++ 44 :: showR p := by
  have hj : j < (strs s).length := (List.getElem?_eq_some_iff.1 h).1
  have hp : (strs s)[j] = p := (List.getElem?_eq_some_iff.1 h).2
  unfold textTo
  rw [List.take_succ_eq_append_getElem hj, List.map_append, hp]
  by_cases h0 : j = 0
  · subst h0; rw [if_pos rfl]; simp [Lib.join_one]
  · rw [if_neg h0]
    refine join_snoc _ _ fun e => ?_
    have := congrArg List.length e
    rw [List.length_map, List.length_take, List.length_nil] at this
    omega
theorem strs_len {s : Nat} (hs : s < 18446744073709551616) : (strs s).length ≤ 64 := by
  rw [← List.length_map (f := (·.1)), ← firsts hs]
  exact cats_length_le _
theorem textTo_len {s : Nat} (hs : s < 18446744073709551616) (j : Nat) : (textTo s j).length ≤ 384 := by
  have h1 := join_len (((strs s).take j).map showR) (fun p hp => by
    obtain ⟨q, hq, rfl⟩ := List.mem_map.1 hp
    obtain ⟨h1, h2⟩ := strs_lt (List.mem_of_mem_take hq)
    exact piece_len q.1 q.2 (by omega) h2)
  have h2 : (((strs s).take j).map showR).length ≤ 64 := by
    rw [List.length_map, List.length_take]
    have := strs_len hs
    omega
  unfold textTo
  omega

set_option maxRecDepth 100000 in
set_option maxHeartbeats 4000000 in
theorem ref_show (s : Nat) (t : ByteArray) (hs : s < 18446744073709551616) (ht : strB (textB s) = t) (w : World) : Calls Tryd.prog 25 #[.int .u64 s] w fun e w' => e = .returned (.string t) ∧ Below w.heap.size w w' := by
  have cL := ref_list s hs
  obtain ⟨ls, hls⟩ : ∃ ls, cats s = ls := ⟨_, rfl⟩
  obtain ⟨len, hlen⟩ : ∃ len, ls.length = len := ⟨_, rfl⟩
  have hl64 : len ≤ 64 := by rw [← hlen, ← hls]; exact cats_length_le s
  have hat : ∀ k, atN ls k < 64 := fun k => by
    unfold atN
    cases hk : ls[k]? with
    | none => exact (by decide)
    | some c => rw [← hls] at hk; exact cats_lt (List.mem_of_getElem? hk)
  rw [hls] at cL
  have HT := Lib.hid ht
  have HLS := Lib.hid hls
  have HLEN := Lib.hid hlen
  clear ht hls
  go_enter Tryd.func25, Tryd.ntmps25
  go_wp2_with fail
  refine (cL _).mono ?_
  rintro e w1 ⟨v, rfl, hown, hb1⟩
  obtain ⟨A, c, rfl, hI⟩ := ownsI_ints hown
  rw [hlen]
  clear hown hlen cL
  by_cases h0 : len = 0
  · subst h0
    have hs0 : s = 0 := (cats_nil hs).1 (by rw [HLS.out]; exact List.eq_nil_of_length_eq_zero HLEN.out)
    have e1 : t = strB noneB := by rw [← HT.out, hs0]; rfl
    subst e1
    go_wp2_with fail
    go_ret
    exact ⟨rfl, hb1⟩
  · have h0b : ((len : Int) == 0) = false := by simp [h0]
    go_wp2_with fail
    go_loopw [4, 5] (fun o i wr => ∃ (j k : Nat) (so : ByteArray), k ≤ len ∧ i = .int .i64 k ∧ o = .string so ∧ strB (textTo s j) = so ∧ runs (ls.drop k) = (strs s).drop j ∧ (k = 0 ↔ j = 0) ∧ Below w1.heap.size w1 wr) (fun _ i _ => len - (intOf i).toNat)
    case atStart => exact ⟨0, 0, strB [], Nat.zero_le _, rfl, rfl, rfl, by rw [← HLS.out]; rfl, by simp, Below.refl _ _⟩
    case round =>
      obtain ⟨j, i, so, hi, rfl, rfl, hso, hruns, hij, hB⟩ := hrel
      obtain ⟨wo, hwo⟩ : ∃ wo, wo = wr := ⟨_, rfl⟩
      subst hwo
      by_cases hlt : i < len
      · have hpos : 0 < (intsN ls).length := by simp [intsN]; have := HLEN.out; omega
        obtain ⟨b, off, rfl, hb, hc⟩ := hI hpos
        have hcell : ∀ (W : World) (m : Nat), m < len → Below w1.heap.size w1 W → W.cell? ⟨b, off + m, none⟩ = some (.int .i64 ((atN ls m : Nat) : Int)) := fun W m hm hbW => by
          have h1 := hc m (by simp [intsN]; have := HLEN.out; omega)
          rw [intsN_at] at h1
          exact (hbW.cell (p := ⟨b, off + m, none⟩) hb).trans h1
        clear hc hI hpos
        have HC := Lib.hid hcell
        have HSO := Lib.hid hso
        have HR := Lib.hid hruns
        have HIJ := Lib.hid hij
        clear hso hruns hij hcell
        go_wp2_with fail
        go_loopw [6] (fun x wq => ∃ d : Nat, i + d < len ∧ x = .int .i64 ((i + d : Nat) : Int) ∧ (∀ m, i ≤ m → m < i + d → atN ls (m + 1) = atN ls m + 1) ∧ Dr wo wq) (fun x _ => len - (intOf x).toNat)
        case atStart => exact ⟨0, by omega, rfl, fun m h1 h2 => by omega, Dr.refl _⟩
        case round =>
          obtain ⟨d, hd, hx, hcons, n, rfl⟩ := hrel
          have hBn : Below w1.heap.size w1 (wo.drewN n) := below_drewN hB n
          obtain ⟨k, hk⟩ : ∃ k, i + d = k := ⟨_, rfl⟩
          rw [hk] at hx hd
          subst hx
          have hck : wo.cell? ⟨b, off + k, none⟩ = some (.int .i64 ((atN ls k : Nat) : Int)) := HC.out _ k hd hB
          have hck1 : k + 1 < len → wo.cell? ⟨b, off + (k + 1), none⟩ = some (.int .i64 ((atN ls (k + 1) : Nat) : Int)) := fun h => HC.out _ (k + 1) h hB
          have hyb := hat k
          have hzb := hat (k + 1)
          obtain ⟨y, hy⟩ : ∃ y, atN ls k = y := ⟨_, rfl⟩
          obtain ⟨z, hz⟩ : ∃ z, atN ls (k + 1) = z := ⟨_, rfl⟩
          rw [hy] at hck hyb
          rw [hz] at hck1 hzb
          obtain ⟨k1, hk1e⟩ : ∃ k1, k + 1 = k1 := ⟨_, rfl⟩
          obtain ⟨y1, hy1e⟩ : ∃ y1, y + 1 = y1 := ⟨_, rfl⟩
          have hwk : IntKind.i64.wrap ((k : Int) + 1) = (k1 : Int) := by rw [IntKind.wrap_i64]; omega
          have hwy : IntKind.i64.wrap ((y : Int) + 1) = (y1 : Int) := by rw [IntKind.wrap_i64]; omega
          rw [hk1e] at hck1
          by_cases hcont : k1 < len ∧ z = y1
          · obtain ⟨hk1, rfl⟩ := hcont
            have hck2 := hck1 hk1
            have hdk : decide ((k1 : Int) < (len : Int)) = true := by simp; omega
            have hnew : ∀ m, i ≤ m → m < i + (d + 1) → atN ls (m + 1) = atN ls m + 1 := fun m h1 h2 => by
              by_cases he : m = k
              · subst he; rw [hz, hy, hy1e]
              · exact hcons m h1 (by omega)
            have HN := Lib.hid hnew
            have HK := Lib.hid hk
            have HK1 := Lib.hid hk1e
            clear hnew hcons hck1 hy hz hk hk1e hy1e
            go_wp2_with fail
            go_quiet (fail)
            go_wp2_with fail
            go_roundw
            case rel => exact ⟨d + 1, by have := HK.out; have := HK1.out; omega, by have := HK.out; have := HK1.out; rw [show i + (d + 1) = k1 by omega], HN.out, Dr.of _⟩
            case measure => have := HK1.out; simp [intOf]; omega
          · have hstop : k + 1 = len ∨ z ≠ y + 1 := by
              rw [hk1e, hy1e]
              by_cases h1 : k1 < len
              · exact .inr (fun h2 => hcont ⟨h1, h2⟩)
              · exact .inl (by omega)
            have hfr := runs_front ls i d (by rw [HLEN.out, hk]; exact hd) hcons (by rw [HLEN.out, hk, hz, hy]; exact hstop)
            have hrow := row_at ls i d hcons
            obtain ⟨x, hx⟩ : ∃ x, atN ls i = x := ⟨_, rfl⟩
            have hxb := hat i
            rw [hk, hx, hy] at hfr
            rw [hk, hx, hy] at hrow
            rw [hx] at hxb
            rw [HR.out] at hfr
            have hjl : j < (strs s).length := by
              refine Nat.lt_of_not_le fun hle => ?_
              rw [List.drop_eq_nil_of_le hle] at hfr; cases hfr
            rw [List.drop_eq_getElem_cons hjl] at hfr
            injection hfr with hf1 hf2
            have hsucc := textTo_succ (s := s) (j := j) (p := (x, y)) (by rw [List.getElem?_eq_getElem hjl, hf1])
            have hlens := textTo_len hs j
            rw [show (if j = 0 then showR (x, y) else textTo s j ++ 44 :: showR (x, y)) = if i = 0 then showR (x, y) else textTo s j ++ 44 :: showR (x, y) by simp only [HIJ.out]] at hsucc
            have HF2 := Lib.hid hf2
            have hcx : ∀ (W : World), Below w1.heap.size w1 W → W.cell? ⟨b, off + i, none⟩ = some (.int .i64 x) := fun W hW => by rw [← hx]; exact HC.out W i hlt hW
            have hcy : ∀ (W : World), Below w1.heap.size w1 W → W.cell? ⟨b, off + k, none⟩ = some (.int .i64 y) := fun W hW => by rw [← hy]; exact HC.out W k hd hW
            have HCX := Lib.hid hcx
            have HCY := Lib.hid hcy
            have hik : i ≤ k := by omega
            obtain ⟨tx, htx⟩ : ∃ tx, strB (decB x) = tx := ⟨_, rfl⟩
            obtain ⟨ty, hty⟩ : ∃ ty, strB (decB y) = ty := ⟨_, rfl⟩
            have cX := ref_dec x tx hxb htx
            have cY := ref_dec y ty hyb hty
            have ltx : tx.size ≤ 2 := by rw [← htx, strB_size]; exact dec_len x hxb
            have lty : ty.size ≤ 2 := by rw [← hty, strB_size]; exact dec_len y hyb
            -- the text with its comma
            obtain ⟨s1, hs1, ls1, hcomma⟩ : ∃ s1 : ByteArray, (if i = 0 then so = s1 else so ++ ⟨#[44]⟩ = s1) ∧ s1.size ≤ 390 ∧ s1 ++ strB (showR (x, y)) = strB (textTo s (j + 1)) := by
              rw [hsucc, ← HSO.out]
              by_cases h0 : i = 0
              · refine ⟨strB (textTo s j), by rw [if_pos h0], by rw [strB_size]; omega, ?_⟩
                rw [if_pos h0]
                have : textTo s j = [] := by rw [HIJ.out.1 h0]; rfl
                rw [this, strB_append]; rfl
              · refine ⟨strB (textTo s j ++ [44]), ?_, by rw [strB_size, List.length_append]; simp; omega, ?_⟩
                · rw [if_neg h0]; exact strB_append _ [44]
                · rw [if_neg h0, strB_append]; simp
            have lso : so.size ≤ 390 := by rw [← HSO.out, strB_size]; omega
            have HCM := Lib.hid hcomma
            have hxy : (x = y) ↔ (i = k) := by omega
            obtain ⟨s2, hs2⟩ : ∃ s2, s1 ++ tx = s2 := ⟨_, rfl⟩
            obtain ⟨sd, hsd⟩ : ∃ sd, (⟨#[45]⟩ : ByteArray) ++ ty = sd := ⟨_, rfl⟩
            obtain ⟨s3, hs3⟩ : ∃ s3, s2 ++ sd = s3 := ⟨_, rfl⟩
            have ls2 : s2.size ≤ 392 := by rw [← hs2, ByteArray.size_append]; omega
            have lsd : sd.size ≤ 3 := by rw [← hsd, ByteArray.size_append]; show 1 + _ ≤ _; omega
            have hfin : strB (textTo s (j + 1)) = if i = k then s2 else s3 := by
              rw [← HCM.out]
              unfold showR
              simp only
              by_cases he : i = k
              · rw [if_pos he, if_pos (hxy.2 he), ← hs2, ← htx]
              · rw [if_neg he, if_neg (fun e => he (hxy.1 e)), ← hs3, ← hs2, ← hsd, ← htx, ← hty, ByteArray.append_assoc]
                congr 1
            have HFIN := Lib.hid hfin
            have HIJ2 := Lib.hid (show k + 1 = 0 ↔ j + 1 = 0 by omega)
            clear hfin hcomma hxy hcx hcy hf1 hf2 hjl hsucc hlens hrow hcons hy hz hk hx htx hty hat HC HIJ HSO HR
            have HK1 := Lib.hid hk1e
            have gx : wo.cell? ⟨b, off + i, none⟩ = some (.int .i64 x) := HCX.out wo hB
            have hstop2 : (decide (k1 < len) = false) ∨ (decide (k1 < len) = true ∧ k1 < len ∧ wo.cell? ⟨b, off + k1, none⟩ = some (.int .i64 (z : Int)) ∧ ((z : Int) == (y1 : Int)) = false) := by
              by_cases h1 : k1 < len
              · exact .inr ⟨by simp; omega, h1, hck1 h1, by simp; exact fun e => hcont ⟨h1, by omega⟩⟩
              · exact .inl (by simp; omega)
            clear hck1 hcont hstop hk1e hy1e
            have hi0 : (i = 0 ∧ decide (0 < i) = false) ∨ (i ≠ 0 ∧ decide (0 < i) = true) := by
              by_cases h1 : i = 0
              · exact .inl ⟨h1, by simp; omega⟩
              · exact .inr ⟨h1, by simp; omega⟩
            have hk0 : (i = k ∧ decide (i < k) = false) ∨ (i ≠ k ∧ decide (i < k) = true) := by
              by_cases h1 : i = k
              · exact .inl ⟨h1, by simp; omega⟩
              · exact .inr ⟨h1, by simp; omega⟩
            have HIK := Lib.hid hik
            clear hik
            rcases hstop2 with hdk | ⟨hdk, hkl, hcz, hzy⟩
            all_goals
              rcases hi0 with ⟨hi1, hdi0⟩ | ⟨hi1, hdi0⟩
              · rw [if_pos hi1] at hs1
                clear hi1
                rcases hk0 with ⟨hdi, hdk0⟩ | ⟨hdi, hdk0⟩
                · have HD := Lib.hid hdi
                  clear hdi
                  go_wp2_with fail
                  go_quiet (fail)
                  go_wp2_with fail
                  refine (cX _).mono ?_
                  rintro e w2 ⟨rfl, hb2⟩
                  have hB2 := below_more (below_drewN hB _) hb2 (by have := hB.size; omega)
                  go_wp2_with fail
                  go_roundw
                  case rel => exact ⟨j + 1, k1, s2, by have := HK1.out; omega, rfl, rfl, by rw [HFIN.out, if_pos HD.out], by rw [← HK1.out]; exact HF2.out.symm, by rw [← HK1.out]; exact HIJ2.out, hB2⟩
                  case measure => have := HK1.out; have := HIK.out; simp [intOf]; omega
                · have HD := Lib.hid hdi
                  clear hdi
                  go_wp2_with fail
                  go_quiet (fail)
                  go_wp2_with fail
                  refine (cX _).mono ?_
                  rintro e w2 ⟨rfl, hb2⟩
                  have hB2 := below_more (below_drewN hB _) hb2 (by have := hB.size; omega)
                  have gy := HCY.out w2 hB2
                  go_wp2_with fail
                  refine (cY _).mono ?_
                  rintro e w3 ⟨rfl, hb3⟩
                  have hB3 := below_more hB2 hb3 (by have := hB2.size; omega)
                  go_wp2_with fail
                  go_roundw
                  case rel => exact ⟨j + 1, k1, s3, by have := HK1.out; omega, rfl, rfl, by rw [HFIN.out, if_neg HD.out], by rw [← HK1.out]; exact HF2.out.symm, by rw [← HK1.out]; exact HIJ2.out, hB3⟩
                  case measure => have := HK1.out; have := HIK.out; simp [intOf]; omega
              · rw [if_neg hi1] at hs1
                clear hi1
                rcases hk0 with ⟨hdi, hdk0⟩ | ⟨hdi, hdk0⟩
                · have HD := Lib.hid hdi
                  clear hdi
                  go_wp2_with fail
                  go_quiet (fail)
                  go_wp2_with fail
                  refine (cX _).mono ?_
                  rintro e w2 ⟨rfl, hb2⟩
                  have hB2 := below_more (below_drewN hB _) hb2 (by have := hB.size; omega)
                  go_wp2_with fail
                  go_roundw
                  case rel => exact ⟨j + 1, k1, s2, by have := HK1.out; omega, rfl, rfl, by rw [HFIN.out, if_pos HD.out], by rw [← HK1.out]; exact HF2.out.symm, by rw [← HK1.out]; exact HIJ2.out, hB2⟩
                  case measure => have := HK1.out; have := HIK.out; simp [intOf]; omega
                · have HD := Lib.hid hdi
                  clear hdi
                  go_wp2_with fail
                  go_quiet (fail)
                  go_wp2_with fail
                  refine (cX _).mono ?_
                  rintro e w2 ⟨rfl, hb2⟩
                  have hB2 := below_more (below_drewN hB _) hb2 (by have := hB.size; omega)
                  have gy := HCY.out w2 hB2
                  go_wp2_with fail
                  refine (cY _).mono ?_
                  rintro e w3 ⟨rfl, hb3⟩
                  have hB3 := below_more hB2 hb3 (by have := hB2.size; omega)
                  go_wp2_with fail
                  go_roundw
                  case rel => exact ⟨j + 1, k1, s3, by have := HK1.out; omega, rfl, rfl, by rw [HFIN.out, if_neg HD.out], by rw [← HK1.out]; exact HF2.out.symm, by rw [← HK1.out]; exact HIJ2.out, hB3⟩
                  case measure => have := HK1.out; have := HIK.out; simp [intOf]; omega
      · obtain rfl : i = len := by omega
        have hend : strs s = (strs s).take j := by
          have h1 : runs (ls.drop i) = [] := by rw [List.drop_eq_nil_of_le (by rw [HLEN.out]; exact Nat.le_refl _)]; rfl
          rw [hruns] at h1
          rw [List.take_of_length_le (List.drop_eq_nil_iff.1 h1)]
        have hsne : s ≠ 0 := fun e => h0 (by rw [← HLEN.out, ← HLS.out, e]; rfl)
        have hso2 : so = t := by
          rw [← hso, ← HT.out]
          unfold textTo
          rw [← hend, text_of hsne]
        subst hso2
        clear hso hruns hij hend hsne
        go_wp2_with fail
        go_ret
        exact ⟨rfl, below_more hb1 hB (Nat.le_refl _)⟩
end Go.Proofs.YthmccldkknhejaaDoor

/- SetBack's walk. -/
import Derived.Test.YthmccldkknhejaaDoorQg
namespace Go.Proofs.YthmccldkknhejaaDoor
open Go.RowKit Go.Deep
set_option linter.unusedVariables false

theorem of_cats {s : Nat} (h : s < 18446744073709551616) : ofN (intsN (cats s)) = (s, true) := by
  unfold ofN
  have h1 : (intsN (cats s)).all isCat = true := by
    rw [List.all_eq_true]
    intro x hx
    unfold intsN at hx
    obtain ⟨c, hc, rfl⟩ := List.mem_map.1 hx
    have := cats_lt hc
    unfold isCat; simp; omega
  have h2 : (intsN (cats s)).map Int.toNat = cats s := by
    unfold intsN; rw [List.map_map]
    conv => rhs; rw [← List.map_id (cats s)]
    congr 1
  rw [if_pos h1, h2, setOf_cats h]
theorem textB_len {s : Nat} (h : s < 18446744073709551616) : (textB s).length ≤ 384 := by
  by_cases h0 : s = 0
  · subst h0; decide
  · have := textTo_len h (strs s).length
    unfold textTo at this
    rw [List.take_length] at this
    rw [text_of h0]
    exact this
theorem rising_at (l : List Nat) (h : l.Pairwise (· < ·)) (k : Nat) (hk : k + 1 < l.length) : atN l k < atN l (k + 1) := by
  unfold atN
  rw [List.getElem?_eq_getElem (by omega : k < l.length), List.getElem?_eq_getElem hk]
  exact List.pairwise_iff_getElem.1 h k (k + 1) (by omega) hk (by omega)
theorem text_eq {a b : Nat} (ha : a < 18446744073709551616) (hb : b < 18446744073709551616) : ((strB (textB a)).toList == (strB (textB b)).toList) = ((a : Int) == (b : Int)) := by
  rw [Lib.toList_data, Lib.toList_data, Bool.eq_iff_iff, beq_iff_eq, beq_iff_eq]
  constructor
  · intro h
    have h1 : textB a = textB b := by
      have e : ∀ t : List UInt8, (strB t).data.toList = t := fun t => rfl
      rwa [e, e] at h
    rw [text_inj ha hb h1]
  · intro h
    have : a = b := by omega
    rw [this]
set_option maxRecDepth 100000 in
set_option maxHeartbeats 2000000 in
theorem setBack_walk (a b : Nat) (ha : a < 18446744073709551616) (hb : b < 18446744073709551616) (w : World) (hG : Gnd w) :
    Calls Tryd.prog 4 #[.int .u64 a, .int .u64 b] w fun e w' => e = .returned (.bool true) ∧ Below w.heap.size w w' := by
  have hA := alive_any w hG
  have cL := list_any a ha
  have cSA := show_any a ha
  have cSB := show_any b hb
  have cR := fun W hW => read_any (textB a) a true (by have := textB_len ha; omega) (read_text ha) W hW
  have hof := of_cats ha
  have hris := rising_at (cats a) (cats_rising a)
  have htx := text_eq ha hb
  have hl64 := cats_length_le a
  generalize strB (textB a) = ta at *
  generalize strB (textB b) = tb at *
  generalize cats a = ls at *
  obtain ⟨len, hlen⟩ : ∃ len, ls.length = len := ⟨_, rfl⟩
  have HOF := Lib.hid hof
  have HRIS := Lib.hid hris
  have HTX := Lib.hid htx
  have HLEN := Lib.hid hlen
  rw [hlen] at hl64
  clear hof hris htx
  go_enter Tryd.func4, Tryd.ntmps4
  go_wp2_with fail
  refine hA.mono ?_
  rintro e w1 ⟨rfl, hb1⟩
  go_wp2_with fail
  refine (cL _ (hG.below hb1)).mono ?_
  rintro e w2 ⟨v, rfl, hown, hb⟩
  obtain ⟨A, c, rfl, hI⟩ := ownsI_ints hown
  rw [hlen]
  have hb2 := below_more hb1 hb (Nat.le_refl _)
  have cOf := of_any A (intsN ls) len c _ a true (by rw [← HLEN.out]; simp [intsN]) (by omega) HOF.out w2 hI
  clear hown hlen cL hb hb1
  go_wp2_with fail
  refine cOf.mono ?_
  rintro e w3 ⟨rfl, hd⟩
  have hb3 := below_more hb2 (hd.below _ (Nat.le_refl _)) (Nat.le_refl _)
  have hI3 : Ints .i64 w3.heap.size w3 A (intsN ls) := by obtain ⟨n, rfl⟩ := hd; exact hI
  clear cOf hd hI hb2
  go_wp2_with fail
  refine (cSA _ (hG.below hb3)).mono ?_
  rintro e w4 ⟨rfl, hb⟩
  have hb4 := below_more hb3 hb (Nat.le_refl _)
  have hI4 := hI3.below hb (Nat.le_refl _)
  have hsz := hb.size
  clear hb hb3 hI3
  go_wp2_with fail
  refine (cR _ (hG.below hb4)).mono ?_
  rintro e w5 ⟨rfl, hb⟩
  have hb5 := below_more hb4 hb (Nat.le_refl _)
  have hI5 := hI4.below hb hsz
  have hI5z : w3.heap.size ≤ w5.heap.size := Nat.le_trans hsz hb.size
  clear hb hb4 hI4 cR
  clear hsz
  have hcell : ∀ (W : World) (m : Nat), m < len → Below w5.heap.size w5 W → ∃ b off, A = some ⟨b, off, none⟩ ∧ W.cell? ⟨b, off + m, none⟩ = some (.int .i64 ((atN ls m : Nat) : Int)) := fun W m hm hbW => by
    obtain ⟨b, off, e, hbb, hc⟩ := hI5 (by simp [intsN]; have := HLEN.out; omega)
    refine ⟨b, off, e, ?_⟩
    have h1 := hc m (by simp [intsN]; have := HLEN.out; omega)
    rw [intsN_at] at h1
    exact (hbW.cell (p := ⟨b, off + m, none⟩) (Nat.lt_of_lt_of_le hbb hI5z)).trans h1
  have HC := Lib.hid hcell
  clear hcell hI5
  go_wp2_with fail
  go_loopw [10] (fun i wr => ∃ k : Nat, 1 ≤ k ∧ (k ≤ len ∨ k = 1) ∧ i = .int .i64 k ∧ Dr w5 wr) (fun i _ => len - (intOf i).toNat)
  case atStart => exact ⟨1, Nat.le_refl _, .inr rfl, rfl, Dr.refl _⟩
  case round =>
    obtain ⟨k, hk1, hk, rfl, n, rfl⟩ := hrel
    have hBn : Below w5.heap.size w5 (w5.drewN n) := below_drewN (Below.refl _ _) n
    by_cases hlt : k < len
    · obtain ⟨m, rfl⟩ : ∃ m, k = m + 1 := ⟨k - 1, by omega⟩
      obtain ⟨b1, off, rfl, hc1⟩ := HC.out w5 m (by omega) (Below.refl _ _)
      have hc2 : w5.cell? ⟨b1, off + (m + 1), none⟩ = some (.int .i64 ((atN ls (m + 1) : Nat) : Int)) := by
        obtain ⟨b2, off2, e, h2⟩ := HC.out w5 (m + 1) hlt (Below.refl _ _)
        cases e; exact h2
      have hxy := HRIS.out m (by rw [HLEN.out]; exact hlt)
      generalize atN ls m = x at *
      generalize atN ls (m + 1) = y at *
      obtain ⟨k1, hk1e⟩ : ∃ k1, m + 1 = k1 := ⟨_, rfl⟩
      rw [hk1e] at hc2 hlt hk1 hk
      have hw : IntKind.i64.wrap ((k1 : Int) - 1) = (m : Int) := by rw [IntKind.wrap_i64]; omega
      have hle : decide ((y : Int) ≤ (x : Int)) = false := by simp; omega
      have hle2 : decide (y ≤ x) = false := by simp; omega
      have hml : m < len := by omega
      have HK := Lib.hid hk1e
      have HX := Lib.hid hxy
      clear hk1e hxy hk1 hk
      rw [HK.out]
      go_wp2_with fail
      go_quiet (fail)
      go_wp2_with fail
      go_roundw
      case rel => exact ⟨k1 + 1, by omega, .inl hlt, by go_num, Dr.of _⟩
      case measure => simp [intOf]; omega
    · have hb6 := below_drewN hb5 n
      clear hk hk1
      go_wp2_with fail
      refine (cSA _ (hG.below hb6)).mono ?_
      rintro e w6 ⟨rfl, hb⟩
      have hb7 := below_more hb6 hb (Nat.le_refl _)
      go_wp2_with fail
      refine (cSB _ (hG.below hb7)).mono ?_
      rintro e w7 ⟨rfl, hb'⟩
      have hb8 := below_more hb7 hb' (Nat.le_refl _)
      go_wp2_with fail
      go_ret
      refine ⟨?_, hb8⟩
      rw [HTX.out]
      simp
end Go.Proofs.YthmccldkknhejaaDoor

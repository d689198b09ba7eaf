/- SetLists' walk. -/
import Derived.Test.YthmccldkknhejaaDoorTc
namespace Go.Proofs.YthmccldkknhejaaDoor
open Go.RowKit Go.Deep
set_option linter.unusedVariables false

theorem nodup_len : ∀ (m l : List Nat), m.Pairwise (· < ·) → (∀ x ∈ m, x ∈ l) → m.length ≤ l.length
  | [], l, _, _ => Nat.zero_le _
  | x :: m, l, hp, h => by
    obtain ⟨h1, h2⟩ := List.pairwise_cons.1 hp
    have hx : x ∈ l := h x (by simp)
    have ih := nodup_len m (l.erase x) h2 fun y hy => (List.mem_erase_of_ne (by have := h1 y hy; omega)).2 (h y (by simp [hy]))
    rw [List.length_erase_of_mem hx] at ih
    have : 0 < l.length := List.length_pos_of_mem hx
    simp only [List.length_cons]; omega
theorem cats_of_len {zs : List Int} {u : Nat} {o : Bool} (h : ofN zs = (u, o)) : (cats u).length ≤ zs.length := by
  unfold ofN at h
  split at h
  · cases h
    have := nodup_len (cats (setOf (zs.map Int.toNat))) (zs.map Int.toNat) (cats_rising _) fun x hx => by
      have := (mem_cats.1 hx).2
      rw [bit_setOf] at this
      simpa using this
    simpa using this
  · cases h; rw [(cats_nil (by decide)).2 rfl]; exact Nat.zero_le _
theorem of_reverse (zs : List Int) : ofN zs.reverse = ofN zs := by
  unfold ofN
  rw [List.all_reverse]
  split
  · have : setOf (zs.reverse.map Int.toNat) = setOf (zs.map Int.toNat) := by
      apply Nat.eq_of_testBit_eq
      intro i
      rw [bit_setOf, bit_setOf]
      simp
    rw [this]
  · rfl
theorem of_has {zs : List Int} {u : Nat} (h : ofN zs = (u, true)) (c : Int) : hasN u c = zs.any (fun z => z == c) := by
  unfold ofN at h
  split at h
  · rename_i hall
    cases h
    rw [List.all_eq_true] at hall
    unfold hasN
    rw [bit_setOf, Bool.eq_iff_iff, Bool.and_eq_true, List.any_eq_true]
    constructor
    · rintro ⟨hc, hm⟩
      obtain ⟨k, rfl, hk⟩ := isCat_nat hc
      simp at hm
      obtain ⟨z, hz, he⟩ := hm
      obtain ⟨m, rfl, _⟩ := isCat_nat (hall z hz)
      exact ⟨_, hz, by simp at he; simp; omega⟩
    · rintro ⟨z, hz, he⟩
      obtain rfl : z = c := by simpa using he
      exact ⟨hall z hz, by simp; exact ⟨z, hz, rfl⟩⟩
  · cases h
theorem drop_cons (zs : List Int) (k : Nat) (h : k < zs.length) : zs.drop k = (zs[k]?.getD 0) :: zs.drop (k + 1) := by
  rw [List.drop_eq_getElem_cons h, List.getElem?_eq_getElem h]; rfl
set_option maxRecDepth 100000 in
set_option maxHeartbeats 2000000 in
theorem setLists_walk (A : Option Addr) (zs : List Int) (len cap : Nat) (c : Int) (hl : zs.length = len) (w : World) (hI : Ints .i64 w.heap.size w A zs) (hG : Gnd w) :
    Calls Tryd.prog 8 #[.slice A len cap, .int .i64 c] w fun e w' => e = .returned (.bool true) ∧ Below w.heap.size w w' := by
  obtain ⟨i0, hi, hz0, hz1, hz2⟩ := info_parts infoInt
  have hA := alive_any w hG
  by_cases hbig : 200 < len
  · have hd : (200 : Int) < (len : Int) := by omega
    clear hl hbig
    go_enter Tryd.func8, Tryd.ntmps8
    go_wp2_with fail
    refine hA.mono ?_
    rintro e w1 ⟨rfl, hb⟩
    go_wp2_with fail
    go_ret
    exact ⟨rfl, hb⟩
  · have hm : len ≤ 200 := by omega
    have hd : ¬ ((200 : Int) < (len : Int)) := by omega
    clear hbig
    obtain ⟨u, o, ho⟩ : ∃ u o, ofN zs = (u, o) := ⟨_, _, rfl⟩
    have hul : u < 18446744073709551616 := by have := of_lt zs; rw [ho] at this; exact this
    have HL := Lib.hid hl
    have HO := Lib.hid ho
    clear ho hl
    go_enter Tryd.func8, Tryd.ntmps8
    go_wp2_with fail
    refine hA.mono ?_
    rintro e w1 ⟨rfl, hb1⟩
    have hI1 := hI.below hb1 (Nat.le_refl _)
    go_wp2_with fail
    refine (of_any A zs len cap _ u o HL.out (by omega) HO.out w1 hI1).mono ?_
    rintro e w2 ⟨rfl, hd2⟩
    have hb2 := below_more hb1 (hd2.below _ (Nat.le_refl _)) (Nat.le_refl _)
    have hI2 := hI.below hb2 (Nat.le_refl _)
    clear hd2 hb1 hI1
    have hlit : (w2.alloc (.cells #[] 3)).ownsRow w2.heap.size 3 1 (.slice (some ⟨w2.heap.size, 0, none⟩) 0 0) 0 [] := World.ownsRow_lit w2 #[] 0 (Nat.le_refl _) (by simp) (by simp)
    have hsz2 := hb2.size
    go_wp2_with fail
    go_loopw [7, 8, 9] (fun b v i wr => ∃ (vv : Value) (k : Nat) (ps : List Int) (z : Int), vv = v ∧ k ≤ len ∧ z = (k : Int) - 1 ∧ i = .int .i64 z ∧ zs.drop k = ps ∧ b = .bool (ps.any fun z => z == c) ∧ wr.ownsRow w2.heap.size 3 1 vv ps.length (ps.reverse.map (Value.int .i64)) ∧ Below w2.heap.size w2 wr) (fun _ _ i _ => (intOf i + 1).toNat)
    case atStart => exact ⟨_, len, [], _, rfl, Nat.le_refl _, rfl, by go_num, by rw [← HL.out]; simp, rfl, hlit, (Below.refl _ _).alloc (Nat.le_refl _) _⟩
    case round =>
      obtain ⟨v, k, ps, z, hvv, hk, hz, rfl, hps, rfl, hown, hB⟩ := hrel
      subst hvv
      have hpl : ps.length = len - k := by rw [← hps, List.length_drop, HL.out]
      cases k with
      | zero =>
        obtain rfl : z = -1 := by simpa using hz
        obtain rfl : zs = ps := by simpa using hps
        obtain ⟨A', c', rfl, hI'⟩ := ints_own hown
        rw [List.length_reverse, HL.out]
        have hBw := below_more hb2 hB (Nat.le_refl _)
        have cOf := of_any A' zs.reverse len c' _ u o (by rw [List.length_reverse, HL.out]) (by omega) (by rw [of_reverse]; exact HO.out) wr hI'
        have hle := cats_of_len HO.out
        rw [HL.out] at hle
        have cL := list_any u hul
        generalize cats u = ls at *
        obtain ⟨k2, hk2⟩ : ∃ x, ls.length = x := ⟨_, rfl⟩
        rw [hk2] at hle
        have hdl : (k2 : Int) ≤ (len : Int) := by omega
        have HK := Lib.hid hk2
        obtain ⟨q, hq⟩ : ∃ q, (zs.any fun z => z == c) = q := ⟨_, rfl⟩
        rw [hq]
        cases o with
        | true =>
          have cH := has_any u c q hul ((of_has HO.out c).trans hq)
          clear hq hk2 hpl hps hz hk hown hI'
          go_wp2_with fail
          refine cOf.mono ?_
          rintro e w3 ⟨rfl, n, rfl⟩
          have hb3 := below_drewN hBw n
          go_wp2_with fail
          refine (cH _).mono ?_
          rintro e _ ⟨rfl, rfl⟩
          go_wp2_with fail
          refine (cL _ (hG.below hb3)).mono ?_
          rintro e w4 ⟨v, rfl, hown, hb⟩
          obtain ⟨A1, c1, rfl, _⟩ := ownsI_ints hown
          rw [HK.out]
          have hb4 := below_more hb3 hb (Nat.le_refl _)
          clear hown hb
          go_wp2_with fail
          go_ret
          exact ⟨rfl, hb4⟩
        | false =>
          clear hq hk2 hpl hps hz hk hown hI'
          go_wp2_with fail
          refine cOf.mono ?_
          rintro e w3 ⟨rfl, n, rfl⟩
          have hb3 := below_drewN hBw n
          go_wp2_with fail
          refine (cL _ (hG.below hb3)).mono ?_
          rintro e w4 ⟨v, rfl, hown, hb⟩
          obtain ⟨A1, c1, rfl, _⟩ := ownsI_ints hown
          rw [HK.out]
          have hb4 := below_more hb3 hb (Nat.le_refl _)
          clear hown hb
          go_wp2_with fail
          go_ret
          exact ⟨rfl, hb4⟩
      | succ k =>
        obtain rfl : z = (k : Int) := by omega
        have hIr := hI2.below hB hsz2
        obtain ⟨b1, off, rfl, hbb, hc⟩ := hIr (by have := HL.out; omega)
        have hck : wr.cell? ⟨b1, off + k, none⟩ = some (.int .i64 (zs[k]?.getD 0)) := hc k (by have := HL.out; omega)
        have hdr := drop_cons zs k (by have := HL.out; omega)
        rw [hps] at hdr
        clear hc hps hz
        generalize zs[k]?.getD 0 = y at *
        have HD := Lib.hid hdr
        clear hdr
        obtain ⟨q, hq⟩ : ∃ q, (ps.any fun z => z == c) = q := ⟨_, rfl⟩
        rw [hq]
        have HQ := Lib.hid hq
        clear hq
        have hsz := hB.size
        cases q with
        | true =>
          go_wp2_with (at_builtin; refine wpList_append_own _ rfl _ _ 22 rfl w2.heap.size 3 i0 (.int .i64 0) 1 8 Tryd.underlying22 hi hz0 hz1 hz2 rfl (by decide) v ps.length (ps.reverse.map (Value.int .i64)) rfl (World.ownsRow.alloc hown _) ⟨wr.heap.size, 0, none⟩ 1 1 [.int .i64 y] rfl rfl (cell_one_new _ _ _) (by simp [Value.oneCell']) (by simp only [maxLen]; omega) (by omega) (by simp; omega) ?_; intro v' w3 hown' hgrow _)
          go_roundw
          case rel =>
            refine ⟨v', k, y :: ps, _, rfl, by omega, rfl, by go_num, HD.out, by rw [List.any_cons, HQ.out]; simp, ?_, (hB.alloc hB.size _).grown hgrow (by simp; omega) (fun j e => (World.ownsRow.lt hown j e).1)⟩
            rw [List.reverse_cons, List.map_append, List.length_cons]
            exact hown'
          case measure => simp [intOf]
        | false =>
          obtain ⟨g, hg⟩ : ∃ g, (y == c) = g := ⟨_, rfl⟩
          go_wp2_with (at_builtin; refine wpList_append_own _ rfl _ _ 22 rfl w2.heap.size 3 i0 (.int .i64 0) 1 8 Tryd.underlying22 hi hz0 hz1 hz2 rfl (by decide) v ps.length (ps.reverse.map (Value.int .i64)) rfl (World.ownsRow.alloc hown _) ⟨wr.heap.size, 0, none⟩ 1 1 [.int .i64 y] rfl rfl (cell_one_new _ _ _) (by simp [Value.oneCell']) (by simp only [maxLen]; omega) (by omega) (by simp; omega) ?_; intro v' w3 hown' hgrow _)
          go_roundw
          case rel =>
            refine ⟨v', k, y :: ps, _, rfl, by omega, rfl, by go_num, HD.out, by rw [List.any_cons, HQ.out, Bool.or_false, hg], ?_, (hB.alloc hB.size _).grown hgrow (by simp; omega) (fun j e => (World.ownsRow.lt hown j e).1)⟩
            rw [List.reverse_cons, List.map_append, List.length_cons]
            exact hown'
          case measure => simp [intOf]
end Go.Proofs.YthmccldkknhejaaDoor

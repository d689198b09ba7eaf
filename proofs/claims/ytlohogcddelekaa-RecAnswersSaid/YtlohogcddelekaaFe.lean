/- The document's own All, on what its Decode answers (HD). -/
import Derived.Test.YtlohogcddelekaaFd
import Derived.Test.YtlohogcddelekaaEo
namespace Go.Proofs.Ytlohogcddelekaa
open Go.RowKit Go.Deep
set_option linter.unusedVariables false

theorem ownsR_lit (w : World) : OwnsR w.heap.size (w.alloc (.cells #[] 32)) (.slice (some ⟨w.heap.size, 0, none⟩) 0 0) [] := by
  unfold OwnsR
  exact ⟨by simp, .inr ⟨w.heap.size, 0, _, rfl, Nat.le_refl _, heap_alloc_new w _, Nat.le_refl _, by simp only [maxLen]; omega, by simp, by simp⟩⟩
set_option maxRecDepth 100000 in
set_option maxHeartbeats 2000000 in
theorem refAll_of (HD : ∀ (A : Option Addr) (l c : Nat) (zs : List Int), zs.length = l → isBytes zs → ∀ (w : World), Good A c zs w → Calls Try.prog 11 #[.slice A l c] w (DecSays (decR zs) (decN zs) w)) (A : Option Addr) (l c : Nat) (zs : List Int) (hl : zs.length = l) (hl2 : l ≤ 3000) (hz : isBytes zs) (w : World) (g : Good A c zs w) :
    Calls Try.prog 13 #[.slice A l c] w (AllSays zs w) := by
  have hlc : l ≤ c := by have := g.2.1; omega
  have HL := Lib.hid hl
  go_enter Try.func13, Try.ntmps13
  go_wp2
  go_loopw [4, 5] (fun v i wr => ∃ k : Nat, i = .int .i64 ((posN zs k : Nat) : Int) ∧ Goes zs k ∧ OwnsR w.heap.size wr v (recsN zs k) ∧ Below w.heap.size w wr) (fun _ i _ => l - (intOf i).toNat)
  case atStart => exact ⟨0, rfl, (fun i hi => absurd hi (by omega)), ownsR_lit w, (Below.refl _ _).alloc (Nat.le_refl _) _⟩
  case round =>
    obtain ⟨k, rfl, hgo, hown, hbel⟩ := hrel
    have hpl : posN zs k ≤ l := by rw [← hl]; exact posN_le zs k
    have hp3 := posN_ge hgo
    have hnx := Lib.hid (posN_succ zs k)
    have hrx := Lib.hid (recsN_succ zs k)
    have hgx := Lib.hid (fun h => hgo.succ h)
    have hst := Lib.hid (fun h => (show Stops zs k from ⟨hgo, h⟩))
    have hrl := recsN_length zs k
    have hdl : decN (zs.drop (posN zs k)) ≤ l - posN zs k := by have := decN_le (zs.drop (posN zs k)); rwa [List.length_drop, hl] at this
    have hle : (zs.drop (posN zs k)).length = l - posN zs k := by rw [List.length_drop, hl]
    have F1 : ∀ A' c', Good A' c' (zs.drop (posN zs k)) wr → Calls Try.prog 11 #[.slice A' (l - posN zs k) c'] wr fun e w' => e = .returned (.tuple #[.agg #[.int .i64 (decR (zs.drop (posN zs k))).kind, .int .i64 (decR (zs.drop (posN zs k))).tx, .int .u16 (decR (zs.drop (posN zs k))).mask, .int .u8 (decR (zs.drop (posN zs k))).k0, .int .u8 (decR (zs.drop (posN zs k))).k1, .int .u8 (decR (zs.drop (posN zs k))).k2, .int .u8 (decR (zs.drop (posN zs k))).k3, .bool (decR (zs.drop (posN zs k))).oT, .int .i64 (decR (zs.drop (posN zs k))).oN, .bool (decR (zs.drop (posN zs k))).nT, .int .i64 (decR (zs.drop (posN zs k))).nN], .int .i64 (decN (zs.drop (posN zs k)) : Nat)]) ∧ Below wr.heap.size wr w' := fun A' c' h => HD A' (l - posN zs k) c' (zs.drop (posN zs k)) hle (hz.drop _) wr h
    have gd : ∀ b off, A = some ⟨b, off, none⟩ → Good (some ⟨b, off + posN zs k, none⟩) (c - posN zs k) (zs.drop (posN zs k)) wr := fun b off e => by
      subst e
      exact (g.below hbel).drop (posN zs k) (by omega)
    have gn : posN zs k = l → zs.drop (posN zs k) = [] := fun e => List.drop_of_length_le (by omega)
    generalize decR (zs.drop (posN zs k)) = r at *
    generalize decN (zs.drop (posN zs k)) = n at *
    generalize zs.drop (posN zs k) = ds at *
    generalize hpp : posN zs k = p at *
    have HP := Lib.hid hpp
    clear hpp
    clear hgo hle
    have HRL := Lib.hid hrl
    clear hrl
    cases A with
    | none =>
      obtain ⟨rfl, rfl⟩ := (g.below hbel).none_nil
      have l0 : l = 0 := by have := HL.out; simpa using this.symm
      subst l0
      obtain rfl : p = 0 := by omega
      have e0 := gn rfl
      subst e0
      have n0 : n = 0 := by omega
      subst n0
      have HS := Lib.hid (hst.out rfl)
      clear hst
      have F1' := F1 none 0 (Good.nil wr)
      clear F1 gd gn
      go_wp2_with fail
      (with_reducible refine F1'.mono ?_)
      rintro e w1 ⟨rfl, k1⟩
      have hown1 := hown.below k1
      go_wp2
      go_ret2
      refine ⟨k, _, HS.out, ?_, hown1.below ((Below.refl _ _).alloc (Nat.le_refl _) _), (below_more hbel k1 (Nat.le_refl _)).alloc (below_more hbel k1 (Nat.le_refl _)).size _⟩
      rw [HP.out]; rfl
    | some ad =>
      by_cases hl0 : l = 0
      · subst hl0
        obtain rfl : p = 0 := by omega
        have e0 := gn rfl
        subst e0
        have n0 : n = 0 := by omega
        subst n0
        have HS := Lib.hid (hst.out rfl)
        clear hst gd gn
        have i0 : (0 : Int) ≤ (c : Int) := by omega
        go_wp2_with fail
        refine (F1 _ _ ⟨Ints.nil, by simp, fun e => by cases e⟩).mono ?_
        rintro e w1 ⟨rfl, k1⟩
        have hown1 := hown.below k1
        go_wp2
        go_ret2
        refine ⟨k, _, HS.out, ?_, hown1.below ((Below.refl _ _).alloc (Nat.le_refl _) _), (below_more hbel k1 (Nat.le_refl _)).alloc (below_more hbel k1 (Nat.le_refl _)).size _⟩
        rw [HP.out]; rfl
      obtain ⟨b, off, hab⟩ := g.some (by omega)
      injection hab with hab
      subst hab
      by_cases hce : c = p
      · have hpe : p = l := by omega
        have e0 := gn hpe
        subst e0
        have n0 : n = 0 := by omega
        subst n0
        have HS := Lib.hid (hst.out rfl)
        clear hst
        subst hce
        subst hpe
        rw [Nat.sub_self] at F1
        have F1' := F1 (some ⟨b, off, none⟩) 0 ⟨Ints.nil, by simp, fun e => by cases e⟩
        clear F1 gd gn
        have i0 : (0 : Int) ≤ (c : Int) := by omega
        go_wp2_with fail
        (with_reducible refine F1'.mono ?_)
        rintro e w1 ⟨rfl, k1⟩
        have hown1 := hown.below k1
        go_wp2
        go_ret2
        refine ⟨k, _, HS.out, ?_, hown1.below ((Below.refl _ _).alloc (Nat.le_refl _) _), (below_more hbel k1 (Nat.le_refl _)).alloc (below_more hbel k1 (Nat.le_refl _)).size _⟩
        rw [HP.out]; rfl
      · skip
        have F1' := F1 (some ⟨b, off + p, none⟩) (c - p) (gd b off rfl)
        have i0 : (0 : Int) ≤ (p : Int) := by omega
        have i1 : (p : Int) ≤ (l : Int) := by omega
        have i3 : p ≤ c := by omega
        clear F1 gd gn
        by_cases hn : n = 0
        · subst hn
          have HS := Lib.hid (hst.out rfl)
          clear hst
          go_wp2_with fail
          (with_reducible refine F1'.mono ?_)
          rintro e w1 ⟨rfl, k1⟩
          have hown1 := hown.below k1
          go_wp2
          go_ret2
          refine ⟨k, _, HS.out, ?_, hown1.below ((Below.refl _ _).alloc (Nat.le_refl _) _), (below_more hbel k1 (Nat.le_refl _)).alloc (below_more hbel k1 (Nat.le_refl _)).size _⟩
          rw [HP.out]; rfl
        · have hnb : ((n : Int) == 0) = false := by simp; omega
          go_wp2_with fail
          (with_reducible refine F1'.mono ?_)
          rintro e w1 ⟨rfl, k1⟩
          have hb1 := below_more hbel k1 (Nat.le_refl _)
          have hown1 := (hown.below k1).below ((Below.refl _ _).alloc (Nat.le_refl _) (.cells #[.int .i64 r.kind, .int .i64 r.tx, .int .u16 r.mask, .int .u8 r.k0, .int .u8 r.k1, .int .u8 r.k2, .int .u8 r.k3, .bool r.oT, .int .i64 r.oN, .bool r.nT, .int .i64 r.nN] 32))
          have hb2 : Below w.heap.size w (w1.alloc (.cells #[.int .i64 r.kind, .int .i64 r.tx, .int .u16 r.mask, .int .u8 r.k0, .int .u8 r.k1, .int .u8 r.k2, .int .u8 r.k3, .bool r.oT, .int .i64 r.oN, .bool r.nT, .int .i64 r.nN] 32)) := hb1.alloc hb1.size _
          have hown2 := hown1.below ((Below.refl _ _).alloc (Nat.le_refl _) (.cells #[.int .i64 r.kind, .int .i64 r.tx, .int .u16 r.mask, .int .u8 r.k0, .int .u8 r.k1, .int .u8 r.k2, .int .u8 r.k3, .bool r.oT, .int .i64 r.oN, .bool r.nT, .int .i64 r.nN] 32))
          have hb3 : Below w.heap.size w ((w1.alloc (.cells #[.int .i64 r.kind, .int .i64 r.tx, .int .u16 r.mask, .int .u8 r.k0, .int .u8 r.k1, .int .u8 r.k2, .int .u8 r.k3, .bool r.oT, .int .i64 r.oN, .bool r.nT, .int .i64 r.nN] 32)).alloc (.cells #[.int .i64 r.kind, .int .i64 r.tx, .int .u16 r.mask, .int .u8 r.k0, .int .u8 r.k1, .int .u8 r.k2, .int .u8 r.k3, .bool r.oT, .int .i64 r.oN, .bool r.nT, .int .i64 r.nN] 32)) := hb2.alloc hb2.size _
          have hro : RecO ((w1.alloc (.cells #[.int .i64 r.kind, .int .i64 r.tx, .int .u16 r.mask, .int .u8 r.k0, .int .u8 r.k1, .int .u8 r.k2, .int .u8 r.k3, .bool r.oT, .int .i64 r.oN, .bool r.nT, .int .i64 r.nN] 32)).alloc (.cells #[.int .i64 r.kind, .int .i64 r.tx, .int .u16 r.mask, .int .u8 r.k0, .int .u8 r.k1, .int .u8 r.k2, .int .u8 r.k3, .bool r.oT, .int .i64 r.oN, .bool r.nT, .int .i64 r.nN] 32)) (w1.heap.size + 1) 0 r := by
            have := recO_new (w1.alloc (.cells #[.int .i64 r.kind, .int .i64 r.tx, .int .u16 r.mask, .int .u8 r.k0, .int .u8 r.k1, .int .u8 r.k2, .int .u8 r.k3, .bool r.oT, .int .i64 r.oN, .bool r.nT, .int .i64 r.nN] 32)) r
            rw [show (w1.alloc (.cells #[.int .i64 r.kind, .int .i64 r.tx, .int .u16 r.mask, .int .u8 r.k0, .int .u8 r.k1, .int .u8 r.k2, .int .u8 r.k3, .bool r.oT, .int .i64 r.oN, .bool r.nT, .int .i64 r.nN] 32)).heap.size = w1.heap.size + 1 by simp] at this
            exact this
          have hsz3 := hb3.size
          clear hown1 F1'
          go_wp2_with (at_builtin; refine wpList_appendR rfl _ _ rfl w.heap.size _ _ rfl hown2 r (w1.heap.size + 1) 1 rfl hro (by rw [HRL.out]; omega) hsz3 w hb3 ?_; intro v' w4 hown4 hb4)
          go_roundw
          case rel => exact ⟨k + 1, by rw [hnx.out]; go_num, hgx.out hn, by rw [hrx.out]; exact hown4, hb4⟩
          case measure => simp [intOf]; omega
end Go.Proofs.Ytlohogcddelekaa

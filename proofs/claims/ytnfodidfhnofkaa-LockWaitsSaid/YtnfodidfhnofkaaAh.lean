/- LockWaits. -/
import Derived.Test.YtnfodidfhnofkaaAg
import Derived.Test.YtnfodidfhnofkaaAx
import Derived.Test.YtnfodidfhnofkaaAf
import Derived.Deep.RegionHeld3
import Derived.StillTailTactics
import Derived.BigQuiet
namespace Go.Proofs.Ytnfodidfhnofkaa
open Go.RowKit Go.Deep Go.Maps Go.Lib

set_option maxRecDepth 100000 in
set_option maxHeartbeats 4000000 in
theorem lockWaits_any (A : Option Addr) (cap : Nat) (cs : List PCall) (w : World) (hc : CallsIn w.heap.size w A cs) (hok : ∀ c ∈ cs, okC c) (hm : cs.length ≤ maxLen) :
    Calls Try.prog 7 #[.slice A cs.length cap] w fun e w' => e = .returned (.bool true) ∧ Below w.heap.size w w' := by
  have hbig : cs.length ≤ 9223372036854775807 := by unfold maxLen at hm; omega
  have HC := Lib.hid hc
  have HOK := Lib.hid hok
  clear hc hok hm
  obtain ⟨n, hn⟩ : ∃ n, cs.length = n := ⟨_, rfl⟩
  have HN := Lib.hid hn
  rw [hn] at hbig ⊢
  clear hn
  go_enter Try.func7, Try.ntmps7
  go_wp2_with fail
  refine (alive_any w).mono ?_
  rintro e w1 ⟨rfl, hb1⟩
  have HB1 := Lib.hid hb1
  by_cases h60 : 60 < n
  · have h60z : (60 : Int) < (n : Int) := by omega
    clear hb1
    go_wp2_with fail
    go_ret
    exact ⟨rfl, HB1.out⟩
  · have h60z : ¬ (60 : Int) < (n : Int) := by omega
    have hd := do_any A cap cs w1 ((HC.out.below hb1).more hb1.size) HOK.out (by have := HN.out; omega)
    rw [HN.out] at hd
    have HD := Lib.hid hd
    clear hd hb1
    go_wp2_with fail
    refine HD.out.mono ?_
    rintro e w2 ⟨tb, F2, st2, rfl, hr2, ht2⟩
    have HT2 := Lib.hid ht2
    clear hr2 ht2 HD
    go_wp2_with fail
    refine (txs_any F2 tb (2 * n) st2 w2 HT2.out.lock (by omega)).mono ?_
    rintro e w3 ⟨v, l, rfl, hi3, hl3, hb3⟩
    have HL := Lib.hid hl3
    have HI := Lib.hid HT2.out.lock.1
    have HOL := Lib.hid (show ∀ t ∈ l, okI t from fun t ht => by obtain ⟨k, hk⟩ := (hl3.mem t).1 ht; exact inRow_okI HT2.out.lock.1 hk)
    have HX3 := Lib.hid (show TX w1 w3 F2 tb (2 * n) st2 w2.heap.size v l from ⟨HT2.out.still hb3, hi3⟩)
    obtain ⟨B, c, rfl, -⟩ := IntsAt.ints hi3
    have hlb : l.length ≤ 9223372036854775807 := by
      rcases hi3.2 with ⟨_, h0⟩ | ⟨_, _, _, _, _, _, h3, h4, _⟩
      · omega
      · unfold maxLen at h4; omega
    clear hi3 hl3 hb3
    obtain ⟨N, hN⟩ : ∃ N, l.length = N := ⟨_, rfl⟩
    have HNN := Lib.hid hN
    rw [hN] at hlb HX3 ⊢
    clear hN
    go_wp2_with fail
    go_loopg [5] N (fun gg s5 wr => ∃ (kk : Nat), kk ≤ N ∧ N - kk ≤ gg ∧ s5 = .int .i64 kk ∧ Hid (TX w1 wr F2 tb (2 * n) st2 w2.heap.size (.slice B N c) l))
    case atStart => exact ⟨0, Nat.zero_le _, by omega, rfl, HX3⟩
    case round =>
      obtain ⟨kk, hkk, hgg, rfl, HX⟩ := hrel
      by_cases hlt : kk < N
      · have hltz : (kk : Int) < (N : Int) := by omega
        obtain ⟨t, ht⟩ : ∃ t, l[kk]? = some t := ⟨_, List.getElem?_eq_getElem (by have := HNN.out; omega)⟩
        obtain ⟨b, off, rfl⟩ := ints_addr HX.out.row (by have := HNN.out; omega)
        obtain ⟨c0, hbl⟩ := ints_cell HX.out.row ht
        have HOT := Lib.hid (HOL.out t (List.mem_of_getElem? ht))
        have HTT := Lib.hid ht
        clear ht
        go_wp2_with fail
        have hcw := waits_any F2 tb (2 * n) st2 t wr HX.out.t.lock HOT.out
        cases hw : st2.wish t with
        | none =>
          rw [hw, KV_def] at hcw
          refine hcw.mono ?_
          rintro e w4 ⟨rfl, hb4⟩
          generalize ((keyW st2 t).a.val : Int) = z0 at *
          generalize ((keyW st2 t).b.val : Int) = z1 at *
          generalize ((keyW st2 t).c.val : Int) = z2 at *
          generalize ((keyW st2 t).d.val : Int) = z3 at *
          have HX5 := Lib.hid ((HX.out.still hb4).still ((Below.refl _ w4).alloc (Nat.le_refl _) (.cells #[.int .u8 z0, .int .u8 z1, .int .u8 z2, .int .u8 z3] 24)))
          clear hb4 c0 hbl hcw hw
          go_wp2_with fail
          go_roundg (N - (kk + 1))
          case measure => omega
          case rel => exact ⟨kk + 1, by omega, by omega, by go_num, HX5⟩
        | some p =>
          have HW := Lib.hid hw
          rw [show keyW st2 t = p.key by simp [keyW, hw], hw, KV_def] at hcw
          refine hcw.mono ?_
          rintro e w4 ⟨rfl, hb4⟩
          have HX4 := Lib.hid (HX.out.still hb4)
          clear hb4 c0 hbl hcw hw
          have hbV : Below w4.heap.size w4 (w4.alloc (.cells #[.int .u8 (p.key.a.val : Int), .int .u8 (p.key.b.val : Int), .int .u8 (p.key.c.val : Int), .int .u8 (p.key.d.val : Int)] 24)) := (Below.refl _ w4).alloc (Nat.le_refl _) _
          have hkV : KeyC (w4.alloc (.cells #[.int .u8 (p.key.a.val : Int), .int .u8 (p.key.b.val : Int), .int .u8 (p.key.c.val : Int), .int .u8 (p.key.d.val : Int)] 24)) w4.heap.size p.key := heap_alloc_new w4 _
          go_wp2_with fail
          generalize (w4.alloc (.cells #[.int .u8 (p.key.a.val : Int), .int .u8 (p.key.b.val : Int), .int .u8 (p.key.c.val : Int), .int .u8 (p.key.d.val : Int)] 24)) = V at *
          have HXV := Lib.hid (HX4.out.still hbV)
          have HKV := Lib.hid hkV
          have HOB := Lib.hid (otherB_true HI.out HL.out HW.out HTT.out)
          rw [HNN.out] at HOB
          obtain ⟨hs, hhs⟩ : ∃ hs, (st2.row p.key).hs = hs := ⟨_, rfl⟩
          rw [hhs] at HOB
          have HHS := Lib.hid hhs
          clear hhs hbV hkV
          generalize w4.heap.size = kb at *
          go_loopg [8, 9] N (fun gg s8 s9 wq => ∃ (j : Nat), j ≤ N ∧ N - j ≤ gg ∧ s8 = .bool (otherB hs l kk j) ∧ s9 = .int .i64 j ∧ Hid (TX w1 wq F2 tb (2 * n) st2 w2.heap.size (.slice (some ⟨b, off, none⟩) N c) l) ∧ Hid (KeyC wq kb p.key))
          case atStart => exact ⟨0, Nat.zero_le _, by omega, rfl, rfl, HXV, HKV⟩
          case round =>
            obtain ⟨j, hj, hgj, rfl, rfl, HXq, HKq⟩ := hrel
            by_cases hjl : j < N
            · have hjz : (j : Int) < (N : Int) := by omega
              obtain ⟨y, hy⟩ : ∃ y, l[j]? = some y := ⟨_, List.getElem?_eq_getElem (by have := HNN.out; omega)⟩
              obtain ⟨c0, hbl⟩ := ints_cell HXq.out.row hy
              obtain ⟨k0, k1, k2, k3⟩ := HKq.out.cells
              have hkl := HKq.out.lt
              have HSU := Lib.hid (show otherB hs l kk (j + 1) = (otherB hs l kk j || (j != kk && decide (0 < howH hs y))) by rw [otherB_succ, List.getD_eq_getElem?_getD, hy]; rfl)
              clear hy
              obtain ⟨ob, hob⟩ : ∃ ob, otherB hs l kk j = ob := ⟨_, rfl⟩
              rw [hob] at HSU ⊢
              clear hob
              cases ob with
              | true =>
                go_wp2_with fail
                go_quiet (fail)
                go_wp2_with fail
                go_roundg (N - (j + 1))
                case measure => omega
                case rel => exact ⟨j + 1, by omega, by omega, by rw [HSU.out]; rfl, by go_num, Lib.hid (HXq.out.still (below_drewN (Below.refl _ _) _)), Lib.hid (HKq.out.still (below_drewN (Below.refl _ _) _))⟩
              | false =>
                by_cases hjk : j = kk
                · have hne : ((j : Int) != (kk : Int)) = false := by simp [hjk]
                  have hne2 : (j != kk) = false := by simp [hjk]
                  rw [hne2] at HSU
                  clear hjk hne2
                  go_wp2_with fail
                  go_quiet (fail)
                  go_wp2_with fail
                  go_roundg (N - (j + 1))
                  case measure => omega
                  case rel => exact ⟨j + 1, by omega, by omega, by rw [HSU.out]; rfl, by go_num, Lib.hid (HXq.out.still (below_drewN (Below.refl _ _) _)), Lib.hid (HKq.out.still (below_drewN (Below.refl _ _) _))⟩
                · have hne : ((j : Int) != (kk : Int)) = true := by
                    have : ¬ (j : Int) = (kk : Int) := by omega
                    simpa using this
                  have hne2 : (j != kk) = true := by simpa using hjk
                  rw [hne2] at HSU
                  clear hjk hne2
                  obtain ⟨q, hq⟩ : ∃ q, howH hs y = q := ⟨_, rfl⟩
                  rw [hq] at HSU
                  have HQ := Lib.hid hq
                  clear hq
                  go_wp2_with fail
                  go_still_tail 12, (by kernel_rfl)
                  change wpList _ _ _ _ _ wr.drew
                  have hbd : Below wr.heap.size wr wr.drew := below_drewN (Below.refl _ wr) 1
                  have HXd := Lib.hid (HXq.out.still hbd)
                  have HKd := Lib.hid (HKq.out.still hbd)
                  clear hbd
                  generalize wr.drew = W at *
                  clear c0 k0 k1 k2 k3 hkl hbl
                  go_wp2_with fail
                  refine (holds_any F2 tb (2 * n) st2 y q p.key W HXd.out.t.lock (by rw [HHS.out]; exact HQ.out)).mono ?_
                  rintro e w5 ⟨rfl, hb5⟩
                  have HX5 := Lib.hid (HXd.out.still hb5)
                  have HK5 := Lib.hid (HKd.out.still hb5)
                  clear hb5
                  go_wp2_with fail
                  go_roundg (N - (j + 1))
                  case measure => omega
                  case rel => exact ⟨j + 1, by omega, by omega, by rw [HSU.out]; rfl, by go_num, HX5, HK5⟩
            · obtain rfl : j = N := by omega
              rw [HOB.out]
              obtain ⟨c0, hbl⟩ := ints_cell HXq.out.row HTT.out
              obtain ⟨k0, k1, k2, k3⟩ := HKq.out.cells
              have hkl := HKq.out.lt
              have hwl := waits_low HI.out HW.out
              have hq2 : howH hs t ≠ 2 := by rw [← HHS.out]; exact hwl.1
              have HCell := Lib.hid (show ∀ W, Below wr.heap.size wr W → (W.cell? ⟨b, off + kk, none⟩ = some (.int .i64 t) ∧ W.cell? ⟨kb, 0, none⟩ = some (.int .u8 (p.key.a.val : Int)) ∧ W.cell? ⟨kb, 1, none⟩ = some (.int .u8 (p.key.b.val : Int)) ∧ W.cell? ⟨kb, 2, none⟩ = some (.int .u8 (p.key.c.val : Int)) ∧ W.cell? ⟨kb, 3, none⟩ = some (.int .u8 (p.key.d.val : Int)) ∧ Below wr.heap.size wr W) from fun W hb =>
                ⟨(hb.cell (p := ⟨b, off + kk, none⟩) hbl).trans c0, (hb.cell (p := ⟨kb, 0, none⟩) hkl).trans k0, (hb.cell (p := ⟨kb, 1, none⟩) hkl).trans k1, (hb.cell (p := ⟨kb, 2, none⟩) hkl).trans k2, (hb.cell (p := ⟨kb, 3, none⟩) hkl).trans k3, hb⟩)
              obtain ⟨q, hq⟩ : ∃ q, howH hs t = q := ⟨_, rfl⟩
              rw [hq] at hq2
              have hqd : (q == 2) = false := by simpa using hq2
              have hh := fun W (hb : Below wr.heap.size wr W) => (holds_any F2 tb (2 * n) st2 t q p.key W (HXq.out.still hb).t.lock (by rw [HHS.out]; exact hq)).mono (R' := fun e w' => e = .returned (.int .i64 q) ∧ Below wr.heap.size wr w') fun e w' h => ⟨h.1, hb.trans (h.2.mono hb.size)⟩
              have ha := fun W (hb : Below wr.heap.size wr W) => (ask_still F2 tb (2 * n) st2 st2 t 0 17 p.key true W (HXq.out.still hb).t.lock (ask_again HI.out HW.out) (.inr (by rw [HW.out]; rfl))).mono (R' := fun e w' => e = .returned (.int .i64 17) ∧ Below wr.heap.size wr w') fun e w' h => ⟨h.1, hb.trans (h.2.mono hb.size)⟩
              simp only [KV_def] at hh ha
              have hbd : Below wr.heap.size wr wr.drew := below_drewN (Below.refl _ wr) 1
              have hX := fun W (hb : Below wr.heap.size wr W) => HXq.out.still hb
              have HXX := Lib.hid hX
              clear hX hwl hq hq2
              go_wp2_with fail
              go_region_held3 (fun w' => (w'.cell? ⟨b, off + kk, none⟩ = some (.int .i64 t) ∧ w'.cell? ⟨kb, 0, none⟩ = some (.int .u8 (p.key.a.val : Int)) ∧ w'.cell? ⟨kb, 1, none⟩ = some (.int .u8 (p.key.b.val : Int)) ∧ w'.cell? ⟨kb, 2, none⟩ = some (.int .u8 (p.key.c.val : Int)) ∧ w'.cell? ⟨kb, 3, none⟩ = some (.int .u8 (p.key.d.val : Int)) ∧ Below wr.heap.size wr w'))
                (exact HCell.out _ (by assumption))
                (first
                  | ((rw [if_pos (by rfl)]; go_simp); go_at_call 21; (with_reducible refine (hh _ (by assumption)).mono ?_); rintro e w' ⟨rfl, hb5⟩)
                  | (go_at_call 21; (with_reducible refine (hh _ (by assumption)).mono ?_); rintro e w' ⟨rfl, hb5⟩)
                  | ((rw [if_pos (by rfl)]; go_simp); go_at_call 13; (with_reducible refine (ha _ (by assumption)).mono ?_); rintro e w' ⟨rfl, hb5⟩)
                  | (go_at_call 13; (with_reducible refine (ha _ (by assumption)).mono ?_); rintro e w' ⟨rfl, hb5⟩))
              rename_i hbe
              go_wp2_with fail
              go_roundg (j - (kk + 1))
              case measure => omega
              case rel => exact ⟨kk + 1, by omega, by omega, by go_num, Lib.hid (HXX.out _ (by assumption))⟩
      · obtain rfl : kk = N := by omega
        go_wp2_with fail
        go_ret
        exact ⟨rfl, HB1.out.trans (HX.out.t.below.mono HB1.out.size)⟩
theorem lockWaits_len (A : Option Addr) (len cap : Nat) (cs : List PCall) (w : World) (hl : cs.length = len) (hc : CallsIn w.heap.size w A cs) (hok : ∀ c ∈ cs, okC c) (hm : len ≤ maxLen) :
    Calls Try.prog 7 #[.slice A len cap] w fun e w' => e = .returned (.bool true) ∧ Below w.heap.size w w' := by
  subst hl
  exact lockWaits_any A cap cs w hc hok hm
end Go.Proofs.Ytnfodidfhnofkaa

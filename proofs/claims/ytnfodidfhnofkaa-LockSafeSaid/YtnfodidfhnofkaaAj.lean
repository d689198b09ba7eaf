/- LockSafe. -/
import Derived.Test.YtnfodidfhnofkaaAi
import Derived.Test.YtnfodidfhnofkaaAe
import Derived.Test.YtnfodidfhnofkaaAx
import Derived.StillTailTactics
import Derived.BigQuiet
namespace Go.Proofs.Ytnfodidfhnofkaa
open Go.RowKit Go.Deep Go.Maps Go.Lib

/-- A table under way, with a row of numbers and a row of keys beside it. -/
structure TK (w0 w : World) (F : Nat → Prop) (tb m : Nat) (st : PS) (base : Nat) (v : Value) (l : List Int) (base2 : Nat) (v2 : Value) (lk : List KeyT) : Prop where
  x : TX w0 w F tb m st base v l
  keys : KeysAt w base2 v2 lk
theorem keys_below {w w' : World} {base : Nat} {v : Value} {l : List KeyT} (h : KeysAt w base v l) (hb : Below w.heap.size w w') : KeysAt w' base v l := by
  refine ⟨h.1, ?_⟩
  rcases h.2 with h0 | ⟨g, cap, cur, rfl, h1, h2, h3⟩
  · exact .inl h0
  · exact .inr ⟨g, cap, cur, rfl, h1, (hb.block g (Array.getElem?_eq_some_iff.1 h2).1).trans h2, h3⟩
theorem TK.still {w0 w w' : World} {F : Nat → Prop} {tb m base base2 : Nat} {st : PS} {v v2 : Value} {l : List Int} {lk : List KeyT} (h : TK w0 w F tb m st base v l base2 v2 lk) (hb : Below w.heap.size w w') : TK w0 w' F tb m st base v l base2 v2 lk := ⟨h.x.still hb, keys_below h.keys hb⟩
theorem keys_at {w : World} {base N c : Nat} {B : Option Addr} {l : List KeyT} (h : KeysAt w base (.slice B N c) l) (hl : 0 < l.length) : ∃ g, B = some ⟨g, 0, none⟩ ∧ g < w.heap.size := by
  rcases h.2 with ⟨e, h0⟩ | ⟨g, cap, cur, e, h1, h2, h3⟩
  · omega
  · simp only [Value.slice.injEq] at e
    exact ⟨g, e.1, (Array.getElem?_eq_some_iff.1 h2).1⟩
theorem someN_succ {hs : List (Int × Int)} {l : List Int} {j : Nat} {y : Int} (hy : l[j]? = some y) : someN hs (l.take (j + 1)) = someN hs (l.take j) + (if 0 < howH hs y then 1 else 0) := by
  unfold someN
  rw [List.take_add_one, hy, List.filter_append, List.length_append]
  by_cases e : 0 < howH hs y <;> simp [e]
theorem aloneN_succ {hs : List (Int × Int)} {l : List Int} {j : Nat} {y : Int} (hy : l[j]? = some y) : aloneN hs (l.take (j + 1)) = aloneN hs (l.take j) + (if howH hs y = 2 then 1 else 0) := by
  unfold aloneN
  rw [List.take_add_one, hy, List.filter_append, List.length_append]
  by_cases e : howH hs y = 2 <;> simp [e]
theorem someN_len (hs : List (Int × Int)) (l : List Int) : someN hs l ≤ l.length := List.length_filter_le _ _
theorem aloneN_len (hs : List (Int × Int)) (l : List Int) : aloneN hs l ≤ l.length := List.length_filter_le _ _
set_option maxRecDepth 100000 in
set_option maxHeartbeats 4000000 in
theorem lockSafe_any (A : Option Addr) (cap : Nat) (cs : List PCall) (w : World) (hc : CallsIn w.heap.size w A cs) (hok : ∀ c ∈ cs, okC c) (hm : cs.length ≤ maxLen) (hcp : cs.length ≤ cap) :
    Calls Try.prog 4 #[.slice A cs.length cap] w fun e w' => e = .returned (.bool true) ∧ Below w.heap.size w w' := by
  have hbig : cs.length ≤ 9223372036854775807 := by unfold maxLen at hm; omega
  have HC := Lib.hid hc
  have HOK := Lib.hid hok
  clear hc hok hm
  obtain ⟨n, hn⟩ : ∃ n, cs.length = n := ⟨_, rfl⟩
  have HN := Lib.hid hn
  rw [hn] at hbig hcp ⊢
  clear hn
  go_enter Try.func4, Try.ntmps4
  go_wp2_with fail
  refine (alive_any w).mono ?_
  rintro e w1 ⟨rfl, hb1⟩
  have HB1 := Lib.hid hb1
  by_cases h60 : 60 < n
  · have h60z : (60 : Int) < (n : Int) := by omega
    clear hb1
    go_wp2_with fail
    go_ret
    exact ⟨rfl, HB1.out⟩
  · have h60z : ¬ (60 : Int) < (n : Int) := by omega
    have HC1 := Lib.hid ((HC.out.below hb1).more hb1.size)
    clear hb1
    go_wp2_with fail
    go_loopg [3] (n + 1) (fun gg s3 wr => ∃ (kk : Nat), kk ≤ n + 1 ∧ n + 1 - kk ≤ gg ∧ s3 = .int .i64 kk ∧ Hid (Below w1.heap.size w1 wr))
    case atStart => exact ⟨0, Nat.zero_le _, by omega, rfl, Lib.hid (Below.refl _ _)⟩
    case round =>
      obtain ⟨kk, hkk, hgg, rfl, HBr⟩ := hrel
      obtain ⟨wo, rfl⟩ : ∃ wo, wo = wr := ⟨_, rfl⟩
      by_cases hlt : kk ≤ n
      · have hltz : (kk : Int) ≤ (n : Int) := by omega
        have hcz : (kk : Int) ≤ (cap : Int) := by omega
        have HD := Lib.hid (do_take A cap kk cs wo ((HC1.out.below HBr.out).more HBr.out.size) HOK.out (by have := HN.out; omega) (by have := HN.out; omega))
        go_wp2_with fail
        refine HD.out.mono ?_
        rintro e w2 ⟨tb, F, st, rfl, hr2, ht2⟩
        have HT2 := Lib.hid ht2
        have HI := Lib.hid ht2.lock.1
        clear hr2 ht2 HD
        go_wp2_with fail
        refine (txs_any F tb (2 * kk) st w2 HT2.out.lock (by omega)).mono ?_
        rintro e w3 ⟨v, l, rfl, hi3, hl3, hb3⟩
        have HL := Lib.hid hl3
        have HX3 := Lib.hid (show TX wo w3 F tb (2 * kk) st w2.heap.size v l from ⟨HT2.out.still hb3, hi3⟩)
        obtain ⟨B, c, rfl, -⟩ := IntsAt.ints hi3
        have hlb : l.length ≤ 9223372036854775807 := by
          rcases hi3.2 with ⟨_, h0⟩ | ⟨_, _, _, _, _, _, h3, h4, _⟩
          · omega
          · unfold maxLen at h4; omega
        clear hi3 hl3 hb3 HT2
        obtain ⟨N, hN⟩ : ∃ N, l.length = N := ⟨_, rfl⟩
        have HNN := Lib.hid hN
        rw [hN] at hlb HX3 ⊢
        clear hN
        go_wp2_with fail
        refine (held_any F tb (2 * kk) st w3 HX3.out.t.lock (by omega)).mono ?_
        rintro e w4 ⟨v4, lk, rfl, hk4, hl4, hb4⟩
        have HLK := Lib.hid hl4
        have HX4 := Lib.hid (show TK wo w4 F tb (2 * kk) st w2.heap.size (.slice B N c) l w3.heap.size v4 lk from ⟨HX3.out.still hb4, hk4⟩)
        obtain ⟨B4, c4, rfl⟩ := hk4.isSlice
        have hlb4 : lk.length ≤ 9223372036854775807 := by
          rcases hk4.2 with ⟨_, h0⟩ | ⟨_, _, _, _, _, _, h3, h4, _⟩
          · omega
          · unfold maxLen at h4; omega
        clear hk4 hl4 hb4 HX3
        obtain ⟨M, hM⟩ : ∃ M, lk.length = M := ⟨_, rfl⟩
        have HMM := Lib.hid hM
        rw [hM] at hlb4 HX4 ⊢
        clear hM
        go_wp2_with fail
        go_loopg [7] M (fun gg s7 wq => ∃ (i : Nat), i ≤ M ∧ M - i ≤ gg ∧ s7 = .int .i64 i ∧ Hid (TK wo wq F tb (2 * kk) st w2.heap.size (.slice B N c) l w3.heap.size (.slice B4 M c4) lk))
        case atStart => exact ⟨0, Nat.zero_le _, by omega, rfl, HX4⟩
        case round =>
          obtain ⟨i, hi, hgi, rfl, HXi⟩ := hrel
          by_cases hil : i < M
          · have hiz : (i : Int) < (M : Int) := by omega
            obtain ⟨k, hk⟩ : ∃ k, lk[i]? = some k := ⟨_, List.getElem?_eq_getElem (by have := HMM.out; omega)⟩
            obtain ⟨g, rfl, -⟩ := keys_at HXi.out.keys (by have := HMM.out; omega)
            have HK := Lib.hid hk
            have hne := (HI.out.isSome k).1 ((HLK.out.mem k).1 (List.mem_of_getElem? hk)).1
            obtain ⟨hs, hhs⟩ : ∃ hs, (st.row k).hs = hs := ⟨_, rfl⟩
            have HSC := Lib.hid (safe_count (HI.out.ok k) hne (l := l) (HL.out.up.imp fun h => by omega) fun p hp => (HL.out.mem p.1).2 ⟨k, .inl (List.mem_map.2 ⟨p, hp, rfl⟩)⟩)
            have HCS := Lib.hid (howH_cases (HI.out.ok k).rg)
            rw [hhs] at HSC HCS
            have HHS := Lib.hid hhs
            clear hk hne hhs
            go_wp2_with fail
            go_loopg [8, 9, 10] N (fun gg s8 s9 s10 wp => ∃ (j : Nat), j ≤ N ∧ N - j ≤ gg ∧ s8 = .int .i64 (someN hs (l.take j) : Nat) ∧ s9 = .int .i64 (aloneN hs (l.take j) : Nat) ∧ s10 = .int .i64 j ∧ Hid (TK wo wp F tb (2 * kk) st w2.heap.size (.slice B N c) l w3.heap.size (.slice (some ⟨g, 0, none⟩) M c4) lk))
            case atStart => exact ⟨0, Nat.zero_le _, by omega, rfl, rfl, rfl, HXi⟩
            case round =>
              obtain ⟨j, hj, hgj, rfl, rfl, rfl, HXj⟩ := hrel
              by_cases hjl : j < N
              · have hjz : (j : Int) < (N : Int) := by omega
                obtain ⟨y, hy⟩ : ∃ y, l[j]? = some y := ⟨_, List.getElem?_eq_getElem (by have := HNN.out; omega)⟩
                obtain ⟨b, off, rfl⟩ := ints_addr HXj.out.x.row (by have := HNN.out; omega)
                obtain ⟨c0, hbl⟩ := ints_cell HXj.out.x.row hy
                have hkc := keys_cell HXj.out.keys HK.out
                have k0 : wr.cell? ⟨g, i * 4, none⟩ = some (.int .u8 (k.a.val : Int)) := hkc 0 _ rfl
                have k1 : wr.cell? ⟨g, i * 4 + 1, none⟩ = some (.int .u8 (k.b.val : Int)) := hkc 1 _ rfl
                have k2 : wr.cell? ⟨g, i * 4 + 2, none⟩ = some (.int .u8 (k.c.val : Int)) := hkc 2 _ rfl
                have k3 : wr.cell? ⟨g, i * 4 + 3, none⟩ = some (.int .u8 (k.d.val : Int)) := hkc 3 _ rfl
                have S1 := Lib.hid (someN_succ (hs := hs) hy)
                have S2 := Lib.hid (aloneN_succ (hs := hs) hy)
                have hs1 : someN hs (l.take j) ≤ j := by have := someN_len hs (l.take j); rw [List.length_take] at this; omega
                have hs2 : aloneN hs (l.take j) ≤ j := by have := aloneN_len hs (l.take j); rw [List.length_take] at this; omega
                generalize someN hs (l.take j) = sm at *
                generalize aloneN hs (l.take j) = al at *
                have hHO := HCS.out y
                obtain ⟨q, hq⟩ : ∃ q, howH hs y = q := ⟨_, rfl⟩
                rw [hq] at hHO S1 S2
                have HQ := Lib.hid hq
                clear hkc hy hq
                go_wp2_with fail
                go_still_tail 9, (by kernel_rfl)
                change wpList _ _ _ _ _ wr.drew
                have hbd : Below wr.heap.size wr wr.drew := below_drewN (Below.refl _ wr) 1
                have HXd := Lib.hid (HXj.out.still hbd)
                clear hbd c0 k0 k1 k2 k3 hbl
                generalize wr.drew = W at *
                go_wp2_with fail
                refine (holds_any F tb (2 * kk) st y q k W HXd.out.x.t.lock (by rw [HHS.out]; exact HQ.out)).mono ?_
                rintro e w5 ⟨rfl, hb5⟩
                have HX5 := Lib.hid (HXd.out.still hb5)
                clear hb5
                rcases hHO with rfl | rfl | rfl
                · have e1 : someN hs (l.take (j + 1)) = sm := S1.out
                  have e2 : aloneN hs (l.take (j + 1)) = al := S2.out
                  go_wp2_with fail
                  go_roundg (N - (j + 1))
                  case measure => omega
                  case rel => exact ⟨j + 1, by omega, by omega, by rw [e1], by rw [e2], by go_num, HX5⟩
                · have e1 : someN hs (l.take (j + 1)) = sm + 1 := S1.out
                  have e2 : aloneN hs (l.take (j + 1)) = al := S2.out
                  go_wp2_with fail
                  go_roundg (N - (j + 1))
                  case measure => omega
                  case rel => exact ⟨j + 1, by omega, by omega, by rw [e1]; go_num, by rw [e2], by go_num, HX5⟩
                · have e1 : someN hs (l.take (j + 1)) = sm + 1 := S1.out
                  have e2 : aloneN hs (l.take (j + 1)) = al + 1 := S2.out
                  go_wp2_with fail
                  go_roundg (N - (j + 1))
                  case measure => omega
                  case rel => exact ⟨j + 1, by omega, by omega, by rw [e1]; go_num, by rw [e2]; go_num, by go_num, HX5⟩
              · obtain rfl : j = N := by omega
                have e : l.take j = l := by rw [← HNN.out]; exact List.take_length
                rw [e]
                obtain ⟨n1, n2, n3⟩ := HSC.out
                generalize someN hs l = sm at *
                generalize aloneN hs l = al at *
                clear e
                have hal : al = 0 ∨ al = 1 := by omega
                rcases hal with rfl | rfl
                · have f1 : ((sm : Int) == 0) = false := by
                    have : ¬ (sm : Int) = 0 := by omega
                    simpa using this
                  clear n1 n2 n3
                  go_wp2_with fail
                  go_roundg (M - (i + 1))
                  case measure => omega
                  case rel => exact ⟨i + 1, by omega, by omega, by go_num, HXj⟩
                · obtain rfl : sm = 1 := by have := n3 rfl; omega
                  clear n1 n2 n3
                  go_wp2_with fail
                  go_roundg (M - (i + 1))
                  case measure => omega
                  case rel => exact ⟨i + 1, by omega, by omega, by go_num, HXj⟩
          · obtain rfl : i = M := by omega
            go_wp2_with fail
            go_roundg (n + 1 - (kk + 1))
            case measure => omega
            case rel => exact ⟨kk + 1, by omega, by omega, by go_num, Lib.hid (HBr.out.trans (HXi.out.x.t.below.mono HBr.out.size))⟩
      · obtain rfl : kk = n + 1 := by omega
        go_wp2_with fail
        go_ret
        exact ⟨rfl, HB1.out.trans (HBr.out.mono HB1.out.size)⟩
theorem lockSafe_len (A : Option Addr) (len cap : Nat) (cs : List PCall) (w : World) (hl : cs.length = len) (hc : CallsIn w.heap.size w A cs) (hok : ∀ c ∈ cs, okC c) (hm : len ≤ maxLen) (hcp : len ≤ cap) :
    Calls Try.prog 4 #[.slice A len cap] w fun e w' => e = .returned (.bool true) ∧ Below w.heap.size w w' := by
  subst hl
  exact lockSafe_any A cap cs w hc hok hm hcp
end Go.Proofs.Ytnfodidfhnofkaa

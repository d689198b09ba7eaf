/- LockStrict. -/
import Derived.Test.YtnfodidfhnofkaaAf
import Derived.Test.YtnfodidfhnofkaaAx
import Derived.StillTailTactics
import Derived.BigQuiet
namespace Go.Proofs.Ytnfodidfhnofkaa
open Go.RowKit Go.Deep Go.Maps Go.Lib

theorem CallsIn.take {B : Nat} {w : World} {A : Option Addr} {cs : List PCall} (h : CallsIn B w A cs) (m : Nat) : CallsIn B w A (cs.take m) := fun h0 => by
  have hl : 0 < cs.length := by rw [List.length_take] at h0; omega
  obtain ⟨b, off, e, hb, hc⟩ := h hl
  refine ⟨b, off, e, hb, fun i c hi => hc i c ?_⟩
  rw [List.getElem?_take] at hi
  split at hi
  · exact hi
  · cases hi
theorem okC_take {cs : List PCall} (h : ∀ c ∈ cs, okC c) (m : Nat) : ∀ c ∈ cs.take m, okC c := fun c hc => h c (List.mem_of_mem_take hc)
/-- do on the first m calls. -/
theorem do_take (A : Option Addr) (cap m : Nat) (cs : List PCall) (w : World) (hc : CallsIn w.heap.size w A cs) (hok : ∀ c ∈ cs, okC c) (hl : cs.length ≤ 400) (hm : m ≤ cs.length) :
    Calls Try.prog 33 #[.slice A m cap] w fun e w' => ∃ tb F st, e = .returned (.pointer (some ⟨tb, 0, none⟩)) ∧ RunS (newPS 5) (cs.take m) st ∧ Tb w w' F tb (2 * m) st := by
  have h := do_any A cap (cs.take m) w (hc.take m) (okC_take hok m) (by rw [List.length_take]; omega)
  have e : (cs.take m).length = m := by rw [List.length_take]; omega
  rw [e] at h
  exact h
/-- The cells of a call, in memory of its own. -/
def CallC (w : World) (b : Nat) (c : PCall) : Prop := w.heap[b]? = some (.cells (cvC c).toArray 34 (0, 0))
theorem CallC.lt {w : World} {b : Nat} {c : PCall} (h : CallC w b c) : b < w.heap.size := (Array.getElem?_eq_some_iff.1 h).1
theorem CallC.still {w w' : World} {b : Nat} {c : PCall} (h : CallC w b c) (hb : Below w.heap.size w w') : CallC w' b c := (hb.block b h.lt).trans h
theorem CallC.cells {w : World} {b : Nat} {c : PCall} (h : CallC w b c) : w.cell? ⟨b, 0, none⟩ = some (.int .i64 c.what) ∧ w.cell? ⟨b, 1, none⟩ = some (.int .i64 c.tx) := by
  have hk : w.heap[b]? = some (.cells (cvC c).toArray 34 (0, 0)) := h
  refine ⟨?_, ?_⟩ <;> simp only [World.cell?, hk] <;> rfl
set_option maxRecDepth 100000 in
set_option maxHeartbeats 4000000 in
theorem lockStrict_any (A : Option Addr) (cap : Nat) (cs : List PCall) (tx : Int) (k : KeyT) (w : World) (hc : CallsIn w.heap.size w A cs) (hok : ∀ c ∈ cs, okC c) (htx : okI tx) (hm : cs.length ≤ maxLen) (hcp : cs.length ≤ cap) :
    Calls Try.prog 5 #[.slice A cs.length cap, .int .i64 tx, KV k] w fun e w' => e = .returned (.bool true) ∧ Below w.heap.size w w' := by
  have hbig : cs.length ≤ 9223372036854775807 := by unfold maxLen at hm; omega
  have HC := Lib.hid hc
  have HOK := Lib.hid hok
  have HTX := Lib.hid htx
  clear hc hok hm htx
  obtain ⟨n, hn⟩ : ∃ n, cs.length = n := ⟨_, rfl⟩
  have HN := Lib.hid hn
  rw [hn] at hbig hcp ⊢
  clear hn
  have hbV : Below w.heap.size w (w.alloc (.cells #[.int .u8 (k.a.val : Int), .int .u8 (k.b.val : Int), .int .u8 (k.c.val : Int), .int .u8 (k.d.val : Int)] 24)) := (Below.refl _ w).alloc (Nat.le_refl _) _
  have hkV : KeyC (w.alloc (.cells #[.int .u8 (k.a.val : Int), .int .u8 (k.b.val : Int), .int .u8 (k.c.val : Int), .int .u8 (k.d.val : Int)] 24)) w.heap.size k := heap_alloc_new w _
  rw [KV_def]
  go_enter Try.func5, Try.ntmps5
  go_wp2_with fail
  generalize (w.alloc (.cells #[.int .u8 (k.a.val : Int), .int .u8 (k.b.val : Int), .int .u8 (k.c.val : Int), .int .u8 (k.d.val : Int)] 24)) = V at *
  refine (alive_any V).mono ?_
  rintro e w1 ⟨rfl, hb1⟩
  have HB1 := Lib.hid (hbV.trans (hb1.mono hbV.size))
  have HK1 := Lib.hid (hkV.still hb1)
  by_cases h60 : 60 < n
  · have h60z : (60 : Int) < (n : Int) := by omega
    clear hb1 hbV hkV
    go_wp2_with fail
    go_ret
    exact ⟨rfl, HB1.out⟩
  · have h60z : ¬ (60 : Int) < (n : Int) := by omega
    have HC1 := Lib.hid ((HC.out.below HB1.out).more HB1.out.size)
    clear hb1 hbV hkV
    go_wp2_with fail
    go_loopg [7, 8] n (fun gg s7 s8 wr => ∃ (kk : Nat) (st : PS), kk ≤ n ∧ n - kk ≤ gg ∧ s7 = .int .i64 (howH (st.row k).hs tx) ∧ s8 = .int .i64 ((kk : Int) + 1) ∧ Hid (Inv st) ∧ Hid (RunS (newPS 5) (cs.take kk) st) ∧ Hid (Below w1.heap.size w1 wr))
    case atStart => exact ⟨0, newPS 5, Nat.zero_le _, by omega, by rfl, by rfl, Lib.hid (Inv.new 5), Lib.hid (by rw [List.take_zero]; exact .nil _), Lib.hid (Below.refl _ _)⟩
    case round =>
      obtain ⟨kk, st, hkk, hgg, rfl, rfl, HI, HR, HBr⟩ := hrel
      by_cases hlt : kk < n
      · have hltz : (kk : Int) + 1 ≤ (n : Int) := by omega
        obtain ⟨c, hcc⟩ : ∃ c, cs[kk]? = some c := ⟨_, List.getElem?_eq_getElem (by have := HN.out; omega)⟩
        obtain ⟨b, off, rfl, hbl, hcl⟩ := (HC1.out.below HBr.out) (by have := HN.out; omega)
        have hcv := hcl kk c hcc
        have c0 : wr.cell? ⟨b, off + kk * 8, none⟩ = some (.int .i64 c.what) := hcv 0 _ rfl
        have c1 : wr.cell? ⟨b, off + kk * 8 + 1, none⟩ = some (.int .i64 c.tx) := hcv 1 _ rfl
        have c2 : wr.cell? ⟨b, off + kk * 8 + 2, none⟩ = some (.int .u8 (c.key.a.val : Int)) := hcv 2 _ rfl
        have c3 : wr.cell? ⟨b, off + kk * 8 + 3, none⟩ = some (.int .u8 (c.key.b.val : Int)) := hcv 3 _ rfl
        have c4 : wr.cell? ⟨b, off + kk * 8 + 4, none⟩ = some (.int .u8 (c.key.c.val : Int)) := hcv 4 _ rfl
        have c5 : wr.cell? ⟨b, off + kk * 8 + 5, none⟩ = some (.int .u8 (c.key.d.val : Int)) := hcv 5 _ rfl
        have c6 : wr.cell? ⟨b, off + kk * 8 + 6, none⟩ = some (.bool c.ex) := hcv 6 _ rfl
        have c7 : wr.cell? ⟨b, off + kk * 8 + 7, none⟩ = some (.int .i64 c.now) := hcv 7 _ rfl
        have htk : cs.take (kk + 1) = cs.take kk ++ [c] := by rw [List.take_add_one, hcc]; rfl
        have HTK := Lib.hid htk
        have hbz := HBr.out.size
        clear hcl hcv htk hcc
        have hbV : Below wr.heap.size wr (wr.alloc (.cells #[.int .i64 c.what, .int .i64 c.tx, .int .u8 (c.key.a.val : Int), .int .u8 (c.key.b.val : Int), .int .u8 (c.key.c.val : Int), .int .u8 (c.key.d.val : Int), .bool c.ex, .int .i64 c.now] 34)) := (Below.refl _ _).alloc (Nat.le_refl _) _
        have hcV : CallC (wr.alloc (.cells #[.int .i64 c.what, .int .i64 c.tx, .int .u8 (c.key.a.val : Int), .int .u8 (c.key.b.val : Int), .int .u8 (c.key.c.val : Int), .int .u8 (c.key.d.val : Int), .bool c.ex, .int .i64 c.now] 34)) wr.heap.size c := heap_alloc_new wr _
        have hsub : (kk : Int) + 1 - 1 = (kk : Int) := by omega
        have hk0 : (0 : Int) ≤ (kk : Int) + 1 := by omega
        have hk1 : (kk : Int) + 1 ≤ (cap : Int) := by omega
        go_wp2_with fail
        generalize (wr.alloc (.cells #[.int .i64 c.what, .int .i64 c.tx, .int .u8 (c.key.a.val : Int), .int .u8 (c.key.b.val : Int), .int .u8 (c.key.c.val : Int), .int .u8 (c.key.d.val : Int), .bool c.ex, .int .i64 c.now] 34)) = V at *
        have HCV := Lib.hid hcV
        have HKV := Lib.hid ((HK1.out.still HBr.out).still hbV)
        have HBV := Lib.hid (HBr.out.trans (hbV.mono hbz))
        generalize wr.heap.size = cb at *
        clear hbV hcV c0 c1 c2 c3 c4 c5 c6 c7 hbz hbl
        have HD := Lib.hid (do_take (some ⟨b, off, none⟩) cap (kk + 1) cs V ((HC1.out.below HBV.out).more HBV.out.size) HOK.out (by have := HN.out; omega) (by have := HN.out; omega))
        refine HD.out.mono ?_
        rintro e w2 ⟨tb, F, st', rfl, hr2, ht2⟩
        have HT2 := Lib.hid ht2
        have HR2 := Lib.hid hr2
        have HS := Lib.hid (show DoS st c st' from by
          rw [HTK.out] at hr2
          obtain ⟨st1, h1, h2⟩ := hr2.last
          obtain rfl := h1.one HR.out
          exact h2)
        have HI2 := Lib.hid ht2.lock.1
        have HC2 := Lib.hid (HCV.out.still ht2.below)
        have HK2 := Lib.hid (HKV.out.still ht2.below)
        have HB2 := Lib.hid (HBV.out.trans (ht2.below.mono HBV.out.size))
        obtain ⟨p0, hp0⟩ : ∃ p, howH (st.row k).hs tx = p := ⟨_, rfl⟩
        obtain ⟨q, hq⟩ : ∃ q, howH (st'.row k).hs tx = q := ⟨_, rfl⟩
        have HQ := Lib.hid hq
        have HUP := Lib.hid (show q < p0 → c.what = 1 ∧ c.tx = tx from fun h => Classical.byContradiction fun hn => by
          have := HS.out.up HI.out hn k
          omega)
        rw [hp0]
        clear hr2 ht2 HD hp0 hq
        obtain ⟨k0, k1, k2, k3⟩ := HK2.out.cells
        have hkl := HK2.out.lt
        go_wp2_with fail
        refine (holds_any F tb (2 * (kk + 1)) st' tx q k w2 HT2.out.lock HQ.out).mono ?_
        rintro e w3 ⟨rfl, hb3⟩
        obtain ⟨d0, d1⟩ := (HC2.out.still hb3).cells
        have hcl := (HC2.out.still hb3).lt
        have HB3 := Lib.hid (HB2.out.trans (hb3.mono HB2.out.size))
        clear hb3 k0 k1 k2 k3 hkl
        by_cases hup : q < p0
        · obtain ⟨e1, e2⟩ := HUP.out hup
          have f1 : (c.what != 1) = false := by simp [e1]
          have f2 : (c.tx != tx) = false := by simp [e2]
          clear e1 e2
          go_wp2_with fail
          go_roundg (n - (kk + 1))
          case measure => omega
          case rel => exact ⟨kk + 1, st', by omega, by omega, by rw [HQ.out], by go_num, HI2, HR2, HB3⟩
        · go_wp2_with fail
          go_roundg (n - (kk + 1))
          case measure => omega
          case rel => exact ⟨kk + 1, st', by omega, by omega, by rw [HQ.out], by go_num, HI2, HR2, HB3⟩
      · obtain rfl : kk = n := by omega
        have HD := Lib.hid (do_take A cap kk cs wr ((HC1.out.below HBr.out).more HBr.out.size) HOK.out (by have := HN.out; omega) (by have := HN.out; omega))
        have HKr := Lib.hid (HK1.out.still HBr.out)
        go_wp2_with fail
        refine HD.out.mono ?_
        rintro e w2 ⟨tb, F, st2, rfl, hr2, ht2⟩
        have HT2 := Lib.hid ht2
        clear hr2 ht2 HD
        go_wp2_with fail
        refine (free_any F tb (2 * kk) st2 tx w2 HT2.out.lock (by omega) HTX.out).mono ?_
        rintro e w4 ⟨rfl, st4, hf, h4, m4⟩
        have HF := Lib.hid hf
        have T4 := Lib.hid (HT2.out.step h4 m4)
        generalize grow F w2 w4 = G at *
        clear hf h4 m4
        go_wp2_with fail
        have hcw := waits_any G tb (2 * kk) st4 tx w4 T4.out.lock HTX.out
        rw [HF.out.gone, KV_def] at hcw
        refine hcw.mono ?_
        rintro e w5 ⟨rfl, hb5⟩
        have T5 := Lib.hid (T4.out.still hb5)
        generalize ((keyW st4 tx).a.val : Int) = z0 at *
        generalize ((keyW st4 tx).b.val : Int) = z1 at *
        generalize ((keyW st4 tx).c.val : Int) = z2 at *
        generalize ((keyW st4 tx).d.val : Int) = z3 at *
        have hbW : Below w5.heap.size w5 (w5.alloc (.cells #[.int .u8 z0, .int .u8 z1, .int .u8 z2, .int .u8 z3] 24)) := (Below.refl _ w5).alloc (Nat.le_refl _) _
        clear hb5 hcw
        go_wp2_with fail
        generalize (w5.alloc (.cells #[.int .u8 z0, .int .u8 z1, .int .u8 z2, .int .u8 z3] 24)) = W at *
        have TW := Lib.hid (T5.out.still hbW)
        clear hbW
        refine (keys_any G tb (2 * kk) st4 tx W TW.out.lock (by omega)).mono ?_
        rintro e w6 ⟨v6, l6, rfl, hk6, hl6, hb6⟩
        obtain rfl := free_keys HF.out hl6
        obtain ⟨a6, c6, rfl⟩ := hk6.isSlice
        have T6 := Lib.hid (TW.out.still hb6)
        have HK6 := Lib.hid (HKr.out.still T6.out.below)
        obtain ⟨k0, k1, k2, k3⟩ := HK6.out.cells
        have hkl := HK6.out.lt
        clear hk6 hl6 hb6
        go_wp2_with fail
        refine (holds_any G tb (2 * kk) st4 tx 0 k w6 T6.out.lock (free_how HF.out k)).mono ?_
        rintro e w7 ⟨rfl, hb7⟩
        have T7 := Lib.hid (T6.out.still hb7)
        clear hb7 k0 k1 k2 k3 hkl
        go_wp2_with fail
        go_ret
        exact ⟨rfl, (HB1.out.trans (HBr.out.mono HB1.out.size)).trans (T7.out.below.mono (Nat.le_trans HB1.out.size HBr.out.size))⟩
theorem lockStrict_len (A : Option Addr) (len cap : Nat) (cs : List PCall) (tx : Int) (k : KeyT) (w : World) (hl : cs.length = len) (hc : CallsIn w.heap.size w A cs) (hok : ∀ c ∈ cs, okC c) (htx : okI tx) (hm : len ≤ maxLen) (hcp : len ≤ cap) :
    Calls Try.prog 5 #[.slice A len cap, .int .i64 tx, KV k] w fun e w' => e = .returned (.bool true) ∧ Below w.heap.size w w' := by
  subst hl
  exact lockStrict_any A cap cs tx k w hc hok htx hm hcp
end Go.Proofs.Ytnfodidfhnofkaa

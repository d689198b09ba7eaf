/- LockOrder. -/
import Derived.Test.YtnfodidfhnofkaaAk
namespace Go.Proofs.Ytnfodidfhnofkaa
open Go.RowKit Go.Deep Go.Maps Go.Lib

/-- A table under way, beside the cells of a key and a row of numbers of one's own. -/
structure TV (w0 w : World) (F : Nat → Prop) (tb m : Nat) (st : PS) (kb : Nat) (k : KeyT) (v : Value) (row : List Int) : Prop where
  y : TY w0 w F tb m st kb k
  nv : ∀ b, v.ownBlock = some b → ¬ F b ∧ b ≠ kb
  row : IntsAt w w0.heap.size v row
theorem TV.still {w0 w w' : World} {F : Nat → Prop} {tb m kb : Nat} {st : PS} {k : KeyT} {v : Value} {row : List Int} (h : TV w0 w F tb m st kb k v row) (hb : Below w.heap.size w w') : TV w0 w' F tb m st kb k v row := ⟨h.y.still hb, h.nv, ints_below h.row hb⟩
theorem TV.step {w0 w w' : World} {F : Nat → Prop} {tb m m' kb : Nat} {st st' : PS} {k : KeyT} {v : Value} {row : List Int} (h : TV w0 w F tb m st kb k v row) (h1 : LockAt w' (grow F w w') tb m' st') (h2 : Moves F w w') : TV w0 w' (grow F w w') tb m' st' kb k v row :=
  ⟨h.y.step h1 h2, fun b hb => ⟨fun e => e.elim (h.nv b hb).1 (fun e => by have := (h.row.lt b hb).2; omega), (h.nv b hb).2⟩, ints_moves h.row h2 fun b hb => (h.nv b hb).1⟩
theorem TV.grown {w0 w w' : World} {F : Nat → Prop} {tb m kb : Nat} {st : PS} {k : KeyT} {v v' : Value} {row row' : List Int} (h : TV w0 w F tb m st kb k v row) (hg : w.grownBy w' v.ownBlock) (hrow : IntsAt w' w0.heap.size v' row') (hat : v'.ownBlock = v.ownBlock ∨ v'.ownBlock = some w.heap.size) : TV w0 w' F tb m st kb k v' row' := by
  have hm : Moves (fun b => v.ownBlock = some b) w w' := moves_of_grown hg fun b e => e
  refine ⟨⟨⟨h.y.t.lock.moves hm fun b hb e => (h.nv b e).1 hb, h.y.t.low, h.y.t.below.grown hg h.y.t.below.size fun b e => (h.row.lt b e).1⟩, h.y.no, h.y.key.moves hm fun e => (h.nv kb e).2 rfl⟩, fun b hb => ?_, hrow⟩
  rcases hat with e | e
  · rw [e] at hb; exact h.nv b hb
  · rw [e] at hb
    obtain rfl := Option.some.inj hb
    exact ⟨fun hf => by have := h.y.t.lock.lt _ hf; omega, fun e => by have := h.y.key.lt; omega⟩
def TW (w0 : World) (tb m : Nat) (st : PS) (kb : Nat) (k : KeyT) (v : Value) (row : List Int) (w : World) : Prop := ∃ F, TV w0 w F tb m st kb k v row
section
variable {w0 w w' : World} {tb m kb : Nat} {st st' : PS} {k : KeyT} {v : Value} {row : List Int}
theorem TW.still (h : TW w0 tb m st kb k v row w) (hb : Below w.heap.size w w') : TW w0 tb m st kb k v row w' := by obtain ⟨F, h⟩ := h; exact ⟨F, h.still hb⟩
theorem TW.below (h : TW w0 tb m st kb k v row w) : Below w0.heap.size w0 w := by obtain ⟨F, h⟩ := h; exact h.y.t.below
theorem TW.key (h : TW w0 tb m st kb k v row w) : KeyC w kb k := by obtain ⟨F, h⟩ := h; exact h.y.key
theorem TW.rows (h : TW w0 tb m st kb k v row w) : IntsAt w w0.heap.size v row := by obtain ⟨F, h⟩ := h; exact h.row
theorem TW.mono {m' : Nat} (h : TW w0 tb m st kb k v row w) (hm : m ≤ m') : TW w0 tb m' st kb k v row w := by obtain ⟨F, h⟩ := h; exact ⟨F, ⟨h.y.t.mono hm, h.y.no, h.y.key⟩, h.nv, h.row⟩
theorem TW.ask (h : TW w0 tb m st kb k v row w) (hm : m ≤ 1000) {tx now r : Int} {kx : KeyT} {ex : Bool} (hs : askS st tx kx ex now = (st', r)) :
    Calls Try.prog 13 #[.pointer (some ⟨tb, 0, none⟩), .int .i64 tx, KV kx, .bool ex, .int .i64 now] w fun e w' => e = .returned (.int .i64 r) ∧ TW w0 tb (m + 2) st' kb k v row w' := by
  obtain ⟨F, h⟩ := h
  refine (ask_any F tb m st st' tx now r kx ex w h.y.t.lock hm hs).mono ?_
  rintro e w' ⟨rfl, h1, h2⟩
  exact ⟨rfl, _, h.step h1 h2⟩
theorem TW.free (h : TW w0 tb m st kb k v row w) (hm : m ≤ 1000) {tx : Int} (ht : okI tx) :
    Calls Try.prog 15 #[.pointer (some ⟨tb, 0, none⟩), .int .i64 tx] w fun e w' => e = .returned (.tuple #[]) ∧ ∃ st', FreeSays st st' tx ∧ TW w0 tb m st' kb k v row w' := by
  obtain ⟨F, h⟩ := h
  refine (free_any F tb m st tx w h.y.t.lock hm ht).mono ?_
  rintro e w' ⟨rfl, st', hf, h1, h2⟩
  exact ⟨rfl, st', hf, _, h.step h1 h2⟩
theorem TW.holds (h : TW w0 tb m st kb k v row w) {tx r : Int} {kx : KeyT} (hr : howH (st.row kx).hs tx = r) :
    Calls Try.prog 21 #[.pointer (some ⟨tb, 0, none⟩), .int .i64 tx, KV kx] w fun e w' => e = .returned (.int .i64 r) ∧ TW w0 tb m st kb k v row w' := by
  obtain ⟨F, h⟩ := h
  refine (holds_any F tb m st tx r kx w h.y.t.lock hr).mono ?_
  rintro e w' ⟨rfl, hb⟩
  exact ⟨rfl, _, h.still hb⟩
theorem TW.txs (h : TW w0 tb m st kb k v row w) (hm : m ≤ 1000) :
    Calls Try.prog 29 #[.pointer (some ⟨tb, 0, none⟩)] w fun e w' => ∃ v l, e = .returned v ∧ IntsAt w' w.heap.size v l ∧ TxsL st l ∧ Below w.heap.size w w' := by
  obtain ⟨F, h⟩ := h
  exact txs_any F tb m st w h.y.t.lock hm
end
/-- What is left when the first i of the row have had the key. -/
def OrdAt (st : PS) (row : List Int) (i : Nat) : Prop := (∀ y r, row.drop i = y :: r → Ord st K7 y r) ∧ (row.drop i = [] → ∀ k, st.row k = ⟨[], []⟩)
theorem ordAt_start {st st' : PS} {first : Int} {row : List Int} (h : Ord st K7 first row) (hf : FreeSays st st' first) : OrdAt st' row 0 := by
  refine ⟨fun y r e => ?_, fun e k => ?_⟩
  · rw [List.drop_zero] at e; subst e; exact h.next hf
  · rw [List.drop_zero] at e; subst e; exact h.end hf k
theorem ordAt_next {st st' : PS} {row : List Int} {i : Nat} {y : Int} (h : OrdAt st row i) (hy : row[i]? = some y) (hf : FreeSays st st' y) : OrdAt st' row (i + 1) := by
  obtain ⟨hl, rfl⟩ := List.getElem?_eq_some_iff.1 hy
  have h1 := h.1 _ _ (List.drop_eq_getElem_cons hl)
  refine ⟨fun z r e => ?_, fun e k => ?_⟩
  · rw [e] at h1; exact h1.next hf
  · rw [e] at h1; exact h1.end hf k
theorem ordAt_how {st : PS} {row : List Int} {i : Nat} {y : Int} (h : OrdAt st row i) (hy : row[i]? = some y) : howH (st.row K7).hs y = 2 ∧ okI y ∧ ∀ j z, i < j → row[j]? = some z → howH (st.row K7).hs z = 0 := by
  obtain ⟨hl, rfl⟩ := List.getElem?_eq_some_iff.1 hy
  have h1 := h.1 _ _ (List.drop_eq_getElem_cons hl)
  have hr := h1.ok.rg (row[i], 2) List.mem_cons_self
  refine ⟨by rw [h1.row, how_one, if_pos rfl], by simp only at hr; unfold okI; omega, fun j z hj hz => ?_⟩
  rw [h1.row, how_one, if_neg]
  intro e
  refine (List.nodup_cons.1 h1.nd).1 (e ▸ ?_)
  refine List.mem_of_getElem? (i := j - (i + 1)) ?_
  rw [List.getElem?_drop, show i + 1 + (j - (i + 1)) = j by omega]
  exact hz
theorem any_take_succ {row : List Int} {j : Nat} {y : Int} (hy : row[j]? = some y) (x : Int) : (row.take (j + 1)).any (fun t => t == x) = ((row.take j).any (fun t => t == x) || (y == x)) := by
  rw [List.take_add_one, hy, List.any_append]
  simp
set_option maxRecDepth 100000 in
set_option maxHeartbeats 4000000 in
theorem lockOrder_any (A : Option Addr) (cap : Nat) (zs : List Int) (first : Int) (w : World) (hi : Ints .i64 w.heap.size w A zs) (hm : zs.length ≤ maxLen) :
    Calls Try.prog 8 #[.int .i64 first, .slice A zs.length cap] w fun e w' => e = .returned (.bool true) ∧ Below w.heap.size w w' := by
  have hbig : zs.length ≤ 9223372036854775807 := by unfold maxLen at hm; omega
  have HI := Lib.hid hi
  clear hi hm
  obtain ⟨n, hn⟩ : ∃ n, zs.length = n := ⟨_, rfl⟩
  have HN := Lib.hid hn
  rw [hn] at hbig ⊢
  clear hn
  obtain ⟨i0, hin, hz0, hz1, hz2⟩ := info_parts infoInt
  go_enter Try.func8, Try.ntmps8
  go_wp2_with fail
  refine (alive_any w).mono ?_
  rintro e w1 ⟨rfl, hb1⟩
  have HB1 := Lib.hid hb1
  clear hb1
  by_cases h60 : 60 < n
  · have h60z : (60 : Int) < (n : Int) := by omega
    go_wp2_with fail
    go_ret
    exact ⟨rfl, HB1.out⟩
  · have h60z : decide ((60 : Int) < (n : Int)) = false := decide_eq_false (by omega)
    by_cases ht1 : first < 1
    · have d1 : decide (first < 1) = true := decide_eq_true ht1
      go_wp2_with fail
      go_ret
      exact ⟨rfl, HB1.out⟩
    · have d1 : decide (first < 1) = false := decide_eq_false ht1
      by_cases ht2 : 1048576 < first
      · have d2 : decide (1048576 < first) = true := decide_eq_true ht2
        go_wp2_with fail
        go_ret
        exact ⟨rfl, HB1.out⟩
      · have d2 : decide (1048576 < first) = false := decide_eq_false ht2
        have hN := new_ok 5 w1 (by decide) (by decide)
        go_wp2_with fail
        refine hN.mono ?_
        rintro e w2 ⟨tb, rfl, hl2, hb2⟩
        have hbV : Below w2.heap.size w2 (w2.alloc (.cells #[.int .u8 7, .int .u8 0, .int .u8 0, .int .u8 0] 24)) := (Below.refl _ w2).alloc (Nat.le_refl _) _
        have HZV := Lib.hid (show TZ w1 tb 0 (newPS 5) w2.heap.size K7 (w2.alloc (.cells #[.int .u8 7, .int .u8 0, .int .u8 0, .int .u8 0] 24)) from
          ⟨fun b => w1.heap.size ≤ b ∧ b < w2.heap.size, (⟨hl2, fun b e => e.1, hb2⟩ : Tb w1 w2 _ tb 0 (newPS 5)).still hbV, fun e => by omega, heap_alloc_new w2 _⟩)
        clear hN hl2 hb2 hbV
        go_wp2_with fail
        generalize (w2.alloc (.cells #[.int .u8 7, .int .u8 0, .int .u8 0, .int .u8 0] 24)) = V at *
        generalize w2.heap.size = kb at *
        obtain ⟨k0, k1, k2, k3⟩ := HZV.out.key.cells
        have hkl := HZV.out.key.lt
        obtain ⟨st0, hs0, ho0⟩ := ord_start 5 K7 (first := first) (by omega) (by omega)
        have hA := HZV.out.ask (by omega) hs0
        rw [KV_K7] at hA
        have HO0 := Lib.hid ho0
        have HF1 := Lib.hid (And.intro ht1 ht2)
        clear hs0 ho0
        go_wp2_with fail
        refine hA.mono ?_
        rintro e w3 ⟨rfl, hz3⟩
        have HZ3 := Lib.hid hz3
        clear hA hz3 k0 k1 k2 k3 hkl
        go_wp2_with fail
        have HW0 := Lib.hid (show TW w1 tb 2 st0 kb K7 (.slice (some ⟨w3.heap.size, 0, none⟩) 0 0) [] (w3.alloc (.cells #[] 3)) from by
          obtain ⟨F, h⟩ := HZ3.out
          have hb : Below w3.heap.size w3 (w3.alloc (.cells #[] 3)) := (Below.refl _ w3).alloc (Nat.le_refl _) _
          refine ⟨F, h.still hb, fun b hb => ?_, World.ownsRow_made w3 #[] 0 h.t.below.size (Nat.zero_le _) rfl⟩
          simp only [Value.ownBlock, Option.some.injEq] at hb
          subst hb
          exact ⟨fun e => by have := h.t.lock.lt _ e; omega, fun e => by have := h.key.lt; omega⟩)
        generalize (w3.alloc (.cells #[] 3)) = V1 at *
        generalize (Value.slice (some ⟨w3.heap.size, 0, none⟩) 0 0) = v0 at *
        go_loopg [8, 9] n (fun gg s8 s9 wr => ∃ (kk : Nat) (st : PS) (row : List Int), kk ≤ n ∧ n - kk ≤ gg ∧ s9 = .int .i64 kk ∧ row.length ≤ kk ∧ Hid (Ord st K7 first row) ∧ Hid (TW w1 tb (2 + 2 * kk) st kb K7 s8 row wr))
        case atStart => exact ⟨0, st0, [], Nat.zero_le _, by omega, rfl, Nat.le_refl _, HO0, HW0⟩
        case round =>
          obtain ⟨kk, st, row, hkk, hgg, rfl, hrl, HO, HT⟩ := hrel
          obtain ⟨B, c, rfl, -⟩ := IntsAt.ints HT.out.rows
          obtain ⟨R, hR⟩ : ∃ R, row.length = R := ⟨_, rfl⟩
          have HRR := Lib.hid hR
          rw [hR] at HT hrl ⊢
          clear hR
          by_cases hlt : kk < n
          · have hltz : (kk : Int) < (n : Int) := by omega
            obtain ⟨x, hx⟩ : ∃ x, zs[kk]? = some x := ⟨_, List.getElem?_eq_getElem (by have := HN.out; omega)⟩
            have hbr := HB1.out.trans (HT.out.below.mono HB1.out.size)
            obtain ⟨b, off, rfl, hbl, c0⟩ := ints_in (HI.out.below hbr (Nat.le_refl _)) hx
            have hblr : b < wr.heap.size := Nat.lt_of_lt_of_le hbl hbr.size
            clear hx
            go_wp2_with fail
            go_loopg [11, 12] R (fun gg s11 s12 wq => ∃ (j : Nat), j ≤ R ∧ R - j ≤ gg ∧ s11 = .bool ((x == first) || (row.take j).any (fun t => t == x)) ∧ s12 = .int .i64 j ∧ Hid (TW w1 tb (2 + 2 * kk) st kb K7 (.slice B R c) row wq))
            case atStart => exact ⟨0, Nat.zero_le _, by omega, by rw [List.take_zero]; simp, rfl, HT⟩
            case round =>
              obtain ⟨j, hj, hgj, rfl, rfl, HTj⟩ := hrel
              by_cases hjl : j < R
              · have hjz : (j : Int) < (R : Int) := by omega
                obtain ⟨y, hy⟩ : ∃ y, row[j]? = some y := ⟨_, List.getElem?_eq_getElem (by have := HRR.out; omega)⟩
                obtain ⟨rb, ro, rfl⟩ := ints_addr HTj.out.rows (by have := HRR.out; omega)
                obtain ⟨c0, hbl⟩ := ints_cell HTj.out.rows hy
                have HSU := Lib.hid (any_take_succ hy x)
                obtain ⟨ob, hob⟩ : ∃ ob, ((x == first) || (row.take j).any (fun t => t == x)) = ob := ⟨_, rfl⟩
                have HSV := Lib.hid (show ((x == first) || (row.take (j + 1)).any (fun t => t == x)) = (ob || (y == x)) by rw [HSU.out, ← Bool.or_assoc, hob])
                rw [hob]
                clear hy hob HSU
                cases ob with
                | true =>
                  go_wp2_with fail
                  go_roundg (R - (j + 1))
                  case measure => omega
                  case rel => exact ⟨j + 1, by omega, by omega, by rw [HSV.out]; rfl, by go_num, HTj⟩
                | false =>
                  go_wp2_with fail
                  go_roundg (R - (j + 1))
                  case measure => omega
                  case rel => exact ⟨j + 1, by omega, by omega, by rw [HSV.out]; rfl, by go_num, HTj⟩
              · obtain rfl : j = R := by omega
                have e : row.take j = row := by rw [← HRR.out]; exact List.take_length
                rw [e]
                clear e
                obtain ⟨k0, k1, k2, k3⟩ := HTj.out.key.cells
                have hkl := HTj.out.key.lt
                by_cases hx1 : x < 1
                · have d3 : decide (x < 1) = true := decide_eq_true hx1
                  have hA := HTj.out.ask (by omega) (Ord.bad (st := st) (k := K7) (n := x) (now := kk) (.inl hx1))
                  rw [KV_K7] at hA
                  generalize ((x == first) || row.any (fun t => t == x)) = kn at *
                  go_wp2_with fail
                  refine hA.mono ?_
                  rintro e w5 ⟨rfl, hz5⟩
                  have HZ5 := Lib.hid (hz5.mono (show 2 + 2 * kk + 2 ≤ 2 + 2 * (kk + 1) by omega))
                  clear hA hz5 k0 k1 k2 k3 hkl
                  go_wp2_with fail
                  go_roundg (n - (kk + 1))
                  case measure => omega
                  case rel => exact ⟨kk + 1, st, row, by omega, by omega, by go_num, by have := HRR.out; omega, HO, HZ5⟩
                · have d3 : decide (x < 1) = false := decide_eq_false hx1
                  by_cases hx2 : 1048576 < x
                  · have d4 : decide (1048576 < x) = true := decide_eq_true hx2
                    have hA := HTj.out.ask (by omega) (Ord.bad (st := st) (k := K7) (n := x) (now := kk) (.inr hx2))
                    rw [KV_K7] at hA
                    generalize ((x == first) || row.any (fun t => t == x)) = kn at *
                    go_wp2_with fail
                    refine hA.mono ?_
                    rintro e w5 ⟨rfl, hz5⟩
                    have HZ5 := Lib.hid (hz5.mono (show 2 + 2 * kk + 2 ≤ 2 + 2 * (kk + 1) by omega))
                    clear hA hz5 k0 k1 k2 k3 hkl
                    go_wp2_with fail
                    go_roundg (n - (kk + 1))
                    case measure => omega
                    case rel => exact ⟨kk + 1, st, row, by omega, by omega, by go_num, by have := HRR.out; omega, HO, HZ5⟩
                  · have d4 : decide (1048576 < x) = false := decide_eq_false hx2
                    by_cases hxf : x = first
                    · have f1 : (x == first) = true := by simp [hxf]
                      have f2 : (x != first) = false := by simp [hxf]
                      have hA := HTj.out.ask (by omega) (HO.out.self (now := kk) (by omega) (by omega) (by omega) (by omega))
                      rw [KV_K7, ← hxf] at hA
                      rw [f1, Bool.true_or]
                      clear hxf
                      go_wp2_with fail
                      refine hA.mono ?_
                      rintro e w5 ⟨rfl, hz5⟩
                      have HZ5 := Lib.hid (hz5.mono (show 2 + 2 * kk + 2 ≤ 2 + 2 * (kk + 1) by omega))
                      clear hA hz5 k0 k1 k2 k3 hkl
                      go_wp2_with fail
                      go_roundg (n - (kk + 1))
                      case measure => omega
                      case rel => exact ⟨kk + 1, st, row, by omega, by omega, by go_num, by have := HRR.out; omega, HO, HZ5⟩
                    · have f1 : (x == first) = false := by simpa using hxf
                      have f2 : (x != first) = true := by simpa using hxf
                      rw [f1, Bool.false_or]
                      by_cases hxr : x ∈ row
                      · have hA := HTj.out.ask (by omega) (HO.out.known (n := x) (now := kk) (by omega) (by omega) (by omega) (by omega) hxr)
                        rw [KV_K7] at hA
                        have f3 : row.any (fun t => t == x) = true := List.any_eq_true.2 ⟨x, hxr, by simp⟩
                        rw [f3]
                        clear hxf hxr f3
                        go_wp2_with fail
                        refine hA.mono ?_
                        rintro e w5 ⟨rfl, hz5⟩
                        have HZ5 := Lib.hid (hz5.mono (show 2 + 2 * kk + 2 ≤ 2 + 2 * (kk + 1) by omega))
                        clear hA hz5 k0 k1 k2 k3 hkl
                        go_wp2_with fail
                        go_roundg (n - (kk + 1))
                        case measure => omega
                        case rel => exact ⟨kk + 1, st, row, by omega, by omega, by go_num, by have := HRR.out; omega, HO, HZ5⟩
                      · obtain ⟨st', hs, hO'⟩ := HO.out.more (n := x) (now := kk) (by omega) (by omega) (by omega) (by omega) hxr hxf
                        have HO' := Lib.hid hO'
                        have hA := HTj.out.ask (by omega) hs
                        rw [KV_K7] at hA
                        have f3 : row.any (fun t => t == x) = false := List.any_eq_false.2 fun t ht => by
                          intro e
                          exact hxr ((by simpa using e : t = x) ▸ ht)
                        rw [f3]
                        clear hxf hxr f3 hs hO'
                        go_wp2_with fail
                        refine hA.mono ?_
                        rintro e w5 ⟨rfl, hz5⟩
                        have HZ5 := Lib.hid (hz5.mono (show 2 + 2 * kk + 2 ≤ 2 + 2 * (kk + 1) by omega))
                        have hrow5 : w5.ownsRow w1.heap.size 3 1 (.slice B j c) j (row.map (Value.int .i64)) := by
                          have := hz5.rows
                          unfold IntsAt at this
                          rw [HRR.out] at this
                          exact this
                        have hs5 : w1.heap.size ≤ w5.heap.size := hz5.below.size
                        clear hA hz5 k0 k1 k2 k3 hkl
                        go_wp2_with (first
                          | (at_builtin; refine wpList_append_own_at _ rfl _ _ 46 rfl w1.heap.size 3 i0 (.int .i64 0) 1 8 Try.underlying46 hin hz0 hz1 hz2 rfl (by decide) _ j _ rfl (hrow5.alloc _) ⟨w5.heap.size, 0, none⟩ 1 1 [.int .i64 x] rfl rfl (cell_one_new _ _ _) (by simp [Value.oneCell']) (by simp only [maxLen]; omega) (by omega) (by simp; omega) ?_; intro v' w6 hown' hgrow _ hat)
                          | fail)
                        go_roundg (n - (kk + 1))
                        case measure => omega
                        case rel =>
                          refine ⟨kk + 1, st', row ++ [x], by omega, by omega, by go_num, by rw [List.length_append]; have := HRR.out; simp; omega, HO', Lib.hid ?_⟩
                          obtain ⟨F, h⟩ := HZ5.out
                          exact ⟨F, (h.still ((Below.refl _ w5).alloc (Nat.le_refl _) _)).grown hgrow (by unfold IntsAt; rw [List.length_append, HRR.out]; simpa using hown') hat⟩
          · obtain rfl : kk = n := by omega
            have hF := HT.out.free (by omega) (tx := first) (by unfold okI; omega)
            go_wp2_with fail
            refine hF.mono ?_
            rintro e w5 ⟨rfl, st1, hf, hz5⟩
            have HOA := Lib.hid (ordAt_start HO.out hf)
            have HT5 := Lib.hid hz5
            clear hF hf hz5
            go_wp2_with fail
            go_loopg [14] R (fun gg s14 wq => ∃ (ii : Nat) (st : PS), ii ≤ R ∧ R - ii ≤ gg ∧ s14 = .int .i64 ii ∧ Hid (OrdAt st row ii) ∧ Hid (TW w1 tb (2 + 2 * kk) st kb K7 (.slice B R c) row wq))
            case atStart => exact ⟨0, st1, Nat.zero_le _, by omega, rfl, HOA, HT5⟩
            case round =>
              obtain ⟨ii, sti, hii, hgi, rfl, HOI, HTi⟩ := hrel
              by_cases hil : ii < R
              · have hiz : (ii : Int) < (R : Int) := by omega
                obtain ⟨y, hy⟩ : ∃ y, row[ii]? = some y := ⟨_, List.getElem?_eq_getElem (by have := HRR.out; omega)⟩
                obtain ⟨rb, ro, rfl⟩ := ints_addr HTi.out.rows (by have := HRR.out; omega)
                obtain ⟨c0, hbl⟩ := ints_cell HTi.out.rows hy
                obtain ⟨k0, k1, k2, k3⟩ := HTi.out.key.cells
                have hkl := HTi.out.key.lt
                have HHY := Lib.hid (ordAt_how HOI.out hy)
                have HY := Lib.hid hy
                have hbd : Below wr.heap.size wr wr.drew := below_drewN (Below.refl _ wr) 1
                have HTd := Lib.hid (HTi.out.still hbd)
                clear hy hbd
                go_wp2_with fail
                go_still_tail 6, (by kernel_rfl)
                change wpList _ _ _ _ _ wr.drew
                generalize wr.drew = W at *
                have hH := HTd.out.holds HHY.out.1
                rw [KV_K7] at hH
                clear c0 hbl k0 k1 k2 k3 hkl
                go_wp2_with fail
                refine hH.mono ?_
                rintro e w6 ⟨rfl, hz6⟩
                have HT6 := Lib.hid hz6
                clear hH hz6
                go_wp2_with fail
                go_loopg [15] R (fun gg s15 wq => ∃ (j : Nat), ii + 1 ≤ j ∧ j ≤ R ∧ R - j ≤ gg ∧ s15 = .int .i64 j ∧ Hid (TW w1 tb (2 + 2 * kk) sti kb K7 (.slice (some ⟨rb, ro, none⟩) R c) row wq))
                case atStart => exact ⟨ii + 1, Nat.le_refl _, by omega, by omega, by go_num, HT6⟩
                case round =>
                  obtain ⟨j, hj1, hj, hgj, rfl, HTj⟩ := hrel
                  by_cases hjl : j < R
                  · have hjz : (j : Int) < (R : Int) := by omega
                    obtain ⟨z, hz⟩ : ∃ z, row[j]? = some z := ⟨_, List.getElem?_eq_getElem (by have := HRR.out; omega)⟩
                    obtain ⟨c0, hbl⟩ := ints_cell HTj.out.rows hz
                    obtain ⟨k0, k1, k2, k3⟩ := HTj.out.key.cells
                    have hkl := HTj.out.key.lt
                    have HHZ := Lib.hid (HHY.out.2.2 j z (by omega) hz)
                    have hbd : Below wr.heap.size wr wr.drew := below_drewN (Below.refl _ wr) 1
                    have HTd := Lib.hid (HTj.out.still hbd)
                    clear hz hbd
                    go_wp2_with fail
                    go_still_tail 6, (by kernel_rfl)
                    change wpList _ _ _ _ _ wr.drew
                    generalize wr.drew = W at *
                    have hH := HTd.out.holds HHZ.out
                    rw [KV_K7] at hH
                    clear c0 hbl k0 k1 k2 k3 hkl
                    go_wp2_with fail
                    refine hH.mono ?_
                    rintro e w7 ⟨rfl, hz7⟩
                    have HT7 := Lib.hid hz7
                    clear hH hz7
                    go_wp2_with fail
                    go_roundg (R - (j + 1))
                    case measure => omega
                    case rel => exact ⟨j + 1, by omega, by omega, by omega, by go_num, HT7⟩
                  · obtain rfl : j = R := by omega
                    obtain ⟨c0, hbl⟩ := ints_cell HTj.out.rows HY.out
                    have hF := HTj.out.free (by omega) HHY.out.2.1
                    go_wp2_with fail
                    refine hF.mono ?_
                    rintro e w7 ⟨rfl, st7, hf, hz7⟩
                    have HOI2 := Lib.hid (ordAt_next HOI.out HY.out hf)
                    have HT7 := Lib.hid hz7
                    clear hF hf hz7 c0 hbl
                    go_wp2_with fail
                    go_roundg (j - (ii + 1))
                    case measure => omega
                    case rel => exact ⟨ii + 1, st7, by omega, by omega, by go_num, HOI2, HT7⟩
              · obtain rfl : ii = R := by omega
                have hno := HOI.out.2 (List.drop_eq_nil_of_le (by have := HRR.out; omega))
                have HNO := Lib.hid (show ∀ k t, ¬ inRow (sti.row k) t from fun k t h => by
                  rw [hno k] at h
                  rcases h with h | h <;> cases h)
                clear hno
                have hX := HTi.out.txs (by omega)
                go_wp2_with fail
                refine hX.mono ?_
                rintro e w7 ⟨v7, l7, rfl, hi7, hl7, hb7⟩
                obtain rfl := no_txs HNO.out hl7
                obtain ⟨B7, c7, rfl, _⟩ := IntsAt.ints hi7
                have HB7 := Lib.hid (HB1.out.trans ((HTi.out.below.trans (hb7.mono HTi.out.below.size)).mono HB1.out.size))
                clear hX hi7 hl7 hb7
                go_wp2_with fail
                go_ret
                exact ⟨rfl, HB7.out⟩
theorem lockOrder_len (A : Option Addr) (len cap : Nat) (zs : List Int) (first : Int) (w : World) (hl : zs.length = len) (hi : Ints .i64 w.heap.size w A zs) (hm : len ≤ maxLen) :
    Calls Try.prog 8 #[.int .i64 first, .slice A len cap] w fun e w' => e = .returned (.bool true) ∧ Below w.heap.size w w' := by
  subst hl
  exact lockOrder_any A cap zs first w hi hm
end Go.Proofs.Ytnfodidfhnofkaa

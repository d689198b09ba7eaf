/- do: a row of calls on a new table. -/
import Derived.Test.YtnfodidfhnofkaaAa
import Derived.Test.YtnfodidfhnofkaaBz
namespace Go.Proofs.Ytnfodidfhnofkaa
open Go.RowKit Go.Deep Go.Maps Go.Lib

/-- The cells of a call. -/
def cvC (c : PCall) : List Value := [.int .i64 c.what, .int .i64 c.tx] ++ kv c.key ++ [.bool c.ex, .int .i64 c.now]
def okC (c : PCall) : Prop := okI c.what ∧ okI c.tx ∧ okI c.now
/-- A slice of calls, below B. -/
def CallsIn (B : Nat) (w : World) (A : Option Addr) (cs : List PCall) : Prop :=
  0 < cs.length → ∃ b off, A = some ⟨b, off, none⟩ ∧ b < B ∧ ∀ i c, cs[i]? = some c → ∀ j v, (cvC c)[j]? = some v → w.cell? ⟨b, off + i * 8 + j, none⟩ = some v
theorem CallsIn.below {B : Nat} {w w' : World} {A : Option Addr} {cs : List PCall} (h : CallsIn B w A cs) (hb : Below B w w') : CallsIn B w' A cs := fun h0 => by
  obtain ⟨b, off, e, hlt, hc⟩ := h h0
  exact ⟨b, off, e, hlt, fun i c hi j v hv => (hb.cell (p := ⟨b, off + i * 8 + j, none⟩) hlt).trans (hc i c hi j v hv)⟩
/-- A table under way, of blocks behind w0. -/
structure Tb (w0 w : World) (F : Nat → Prop) (tb m : Nat) (st : PS) : Prop where
  lock : LockAt w F tb m st
  low : ∀ b, F b → w0.heap.size ≤ b
  below : Below w0.heap.size w0 w
theorem Tb.step {w0 w w' : World} {F : Nat → Prop} {tb m m' : Nat} {st st' : PS} (h : Tb w0 w F tb m st) (h1 : LockAt w' (grow F w w') tb m' st') (h2 : Moves F w w') : Tb w0 w' (grow F w w') tb m' st' :=
  ⟨h1, fun b e => e.elim (h.low b) (fun e => by have := h.below.size; omega),
    ⟨h2.os.trans h.below.os, h2.tape.trans h.below.tape, h2.output.trans h.below.output, Nat.le_trans h.below.size h2.size, fun b hb => (h2.block b (Nat.lt_of_lt_of_le hb h.below.size) (fun e => by have := h.low b e; omega)).trans (h.below.block b hb)⟩⟩
theorem Tb.still {w0 w w' : World} {F : Nat → Prop} {tb m : Nat} {st : PS} (h : Tb w0 w F tb m st) (hb : Below w.heap.size w w') : Tb w0 w' F tb m st :=
  ⟨h.lock.below hb, h.low, h.below.trans (hb.mono h.below.size)⟩
theorem LockAt.mono {w : World} {F : Nat → Prop} {tb m m' : Nat} {st : PS} (h : LockAt w F tb m st) (hm : m ≤ m') : LockAt w F tb m' st := by obtain ⟨i, _, _, _, h⟩ := h; exact ⟨i, _, _, _, h.mono hm⟩
theorem Tb.mono {w0 w : World} {F : Nat → Prop} {tb m m' : Nat} {st : PS} (h : Tb w0 w F tb m st) (hm : m ≤ m') : Tb w0 w F tb m' st := ⟨h.lock.mono hm, h.low, h.below⟩
set_option maxRecDepth 100000 in
set_option maxHeartbeats 4000000 in
theorem do_any (A : Option Addr) (cap : Nat) (cs : List PCall) (w : World) (hc : CallsIn w.heap.size w A cs) (hok : ∀ c ∈ cs, okC c) (hl : cs.length ≤ 400) :
    Calls Try.prog 33 #[.slice A cs.length cap] w fun e w' => ∃ tb F st, e = .returned (.pointer (some ⟨tb, 0, none⟩)) ∧ RunS (newPS 5) cs st ∧ Tb w w' F tb (2 * cs.length) st := by
  have hN := new_ok 5 w (by decide) (by decide)
  have HC := Lib.hid hc
  have HOK := Lib.hid hok
  clear hc hok
  obtain ⟨n, hn⟩ : ∃ n, cs.length = n := ⟨_, rfl⟩
  have HN := Lib.hid hn
  rw [hn] at hl ⊢
  clear hn
  go_enter Try.func33, Try.ntmps33
  go_wp2_with fail
  refine hN.mono ?_
  rintro e w1 ⟨tb, rfl, hl1, hb1⟩
  have T1 := Lib.hid (show Tb w w1 (fun k => w.heap.size ≤ k ∧ k < w1.heap.size) tb 0 (newPS 5) from ⟨hl1, fun b e => e.1, hb1⟩)
  clear hN hl1 hb1
  go_wp2_with fail
  go_loopg [5] n (fun gg s5 wr => ∃ (kk : Nat) (F : Nat → Prop) (st : PS), kk ≤ n ∧ n - kk ≤ gg ∧ s5 = .int .i64 kk ∧ Hid (RunS (newPS 5) (cs.take kk) st) ∧ Hid (Tb w wr F tb (2 * kk) st))
  case atStart => exact ⟨0, _, _, Nat.zero_le _, by omega, rfl, Lib.hid (by rw [List.take_zero]; exact .nil _), T1⟩
  case round =>
    obtain ⟨kk, F, st, hkk, hgg, rfl, HRS, HT⟩ := hrel
    by_cases hlt : kk < n
    · have hltz : (kk : Int) < (n : Int) := by omega
      obtain ⟨c, hcc⟩ : ∃ c, cs[kk]? = some c := ⟨_, List.getElem?_eq_getElem (by have := HN.out; omega)⟩
      have hbs := HT.out.below
      obtain ⟨b, off, rfl, hbl, hcl⟩ := (HC.out.below hbs) (by have := HN.out; omega)
      have hcv := hcl kk c hcc
      have c0 : wr.cell? ⟨b, off + kk * 8, none⟩ = some (.int .i64 c.what) := hcv 0 _ rfl
      have c1 : wr.cell? ⟨b, off + kk * 8 + 1, none⟩ = some (.int .i64 c.tx) := hcv 1 _ rfl
      have c2 : wr.cell? ⟨b, off + kk * 8 + 2, none⟩ = some (.int .u8 (c.key.a.val : Int)) := hcv 2 _ rfl
      have c3 : wr.cell? ⟨b, off + kk * 8 + 3, none⟩ = some (.int .u8 (c.key.b.val : Int)) := hcv 3 _ rfl
      have c4 : wr.cell? ⟨b, off + kk * 8 + 4, none⟩ = some (.int .u8 (c.key.c.val : Int)) := hcv 4 _ rfl
      have c5 : wr.cell? ⟨b, off + kk * 8 + 5, none⟩ = some (.int .u8 (c.key.d.val : Int)) := hcv 5 _ rfl
      have c6 : wr.cell? ⟨b, off + kk * 8 + 6, none⟩ = some (.bool c.ex) := hcv 6 _ rfl
      have c7 : wr.cell? ⟨b, off + kk * 8 + 7, none⟩ = some (.int .i64 c.now) := hcv 7 _ rfl
      have htk : cs.take (kk + 1) = cs.take kk ++ [c] := by rw [List.take_add_one, hcc]; rfl
      have HTK := Lib.hid htk
      have HOC := Lib.hid (HOK.out c (List.mem_of_getElem? hcc))
      have hbz := hbs.size
      clear hcl hcv htk hcc hbs
      by_cases h0 : c.what = 0
      · have hw0 : (c.what == 0) = true := by simp [h0]
        have H0 := Lib.hid h0
        clear h0
        have hbV : Below wr.heap.size wr (wr.alloc (.cells #[.int .i64 c.what, .int .i64 c.tx, .int .u8 (c.key.a.val : Int), .int .u8 (c.key.b.val : Int), .int .u8 (c.key.c.val : Int), .int .u8 (c.key.d.val : Int), .bool c.ex, .int .i64 c.now] 34)) := (Below.refl _ _).alloc (Nat.le_refl _) _
        go_wp2_with fail
        generalize (wr.alloc (.cells #[.int .i64 c.what, .int .i64 c.tx, .int .u8 (c.key.a.val : Int), .int .u8 (c.key.b.val : Int), .int .u8 (c.key.c.val : Int), .int .u8 (c.key.d.val : Int), .bool c.ex, .int .i64 c.now] 34)) = V at *
        have TV := Lib.hid (HT.out.still hbV)
        obtain ⟨st', q, hs⟩ : ∃ st' q, askS st c.tx c.key c.ex c.now = (st', q) := ⟨_, _, rfl⟩
        have HS := Lib.hid (show st' = (askS st c.tx c.key c.ex c.now).1 by rw [hs])
        refine (ask_any F tb (2 * kk) st st' c.tx c.now q c.key c.ex V TV.out.lock (by omega) hs).mono ?_
        rintro e w2 ⟨rfl, h2, m2⟩
        have T2 := Lib.hid (TV.out.step h2 m2)
        clear h2 m2 hs
        go_wp2_with fail
        go_roundg (n - (kk + 1))
        case measure => omega
        case rel => exact ⟨kk + 1, _, _, by omega, by omega, by go_num, Lib.hid (by rw [HTK.out]; exact HRS.out.snoc (.inl ⟨H0.out, HS.out⟩)), T2⟩
      · have hw0 : (c.what == 0) = false := by simp [h0]
        by_cases h1 : c.what = 1
        · have hw1 : (c.what == 1) = true := by simp [h1]
          have H1 := Lib.hid h1
          clear h0 h1
          have hbV : Below wr.heap.size wr (wr.alloc (.cells #[.int .i64 c.what, .int .i64 c.tx, .int .u8 (c.key.a.val : Int), .int .u8 (c.key.b.val : Int), .int .u8 (c.key.c.val : Int), .int .u8 (c.key.d.val : Int), .bool c.ex, .int .i64 c.now] 34)) := (Below.refl _ _).alloc (Nat.le_refl _) _
          go_wp2_with fail
          generalize (wr.alloc (.cells #[.int .i64 c.what, .int .i64 c.tx, .int .u8 (c.key.a.val : Int), .int .u8 (c.key.b.val : Int), .int .u8 (c.key.c.val : Int), .int .u8 (c.key.d.val : Int), .bool c.ex, .int .i64 c.now] 34)) = V at *
          have TV := Lib.hid (HT.out.still hbV)
          refine (free_any F tb (2 * kk) st c.tx V TV.out.lock (by omega) HOC.out.2.1).mono ?_
          rintro e w2 ⟨rfl, st', hf, h2, m2⟩
          have T2 := Lib.hid ((TV.out.step h2 m2).mono (show 2 * kk ≤ 2 * (kk + 1) by omega))
          have HF := Lib.hid hf
          clear h2 m2 hf
          go_wp2_with fail
          go_roundg (n - (kk + 1))
          case measure => omega
          case rel => exact ⟨kk + 1, _, _, by omega, by omega, by go_num, Lib.hid (by rw [HTK.out]; exact HRS.out.snoc (.inr (.inl ⟨H1.out, HF.out⟩))), T2⟩
        · have hw1 : (c.what == 1) = false := by simp [h1]
          by_cases h2 : c.what = 2
          · have hw2 : (c.what == 2) = true := by simp [h2]
            have H2 := Lib.hid h2
            clear h0 h1 h2
            have hbV : Below wr.heap.size wr (wr.alloc (.cells #[.int .i64 c.what, .int .i64 c.tx, .int .u8 (c.key.a.val : Int), .int .u8 (c.key.b.val : Int), .int .u8 (c.key.c.val : Int), .int .u8 (c.key.d.val : Int), .bool c.ex, .int .i64 c.now] 34)) := (Below.refl _ _).alloc (Nat.le_refl _) _
            go_wp2_with fail
            generalize (wr.alloc (.cells #[.int .i64 c.what, .int .i64 c.tx, .int .u8 (c.key.a.val : Int), .int .u8 (c.key.b.val : Int), .int .u8 (c.key.c.val : Int), .int .u8 (c.key.d.val : Int), .bool c.ex, .int .i64 c.now] 34)) = V at *
            have TV := Lib.hid (HT.out.still hbV)
            obtain ⟨st', q, hs⟩ : ∃ st' q, quitS st c.tx = (st', q) := ⟨_, _, rfl⟩
            have HS := Lib.hid (show st' = (quitS st c.tx).1 by rw [hs])
            have hq := quit_any F tb (2 * kk) st c.tx V TV.out.lock (by omega) HOC.out.2.1
            rw [hs] at hq
            refine hq.mono ?_
            rintro e w2 ⟨rfl, h2, m2⟩
            have T2 := Lib.hid ((TV.out.step h2 m2).mono (show 2 * kk ≤ 2 * (kk + 1) by omega))
            clear h2 m2 hs hq
            go_wp2_with fail
            go_roundg (n - (kk + 1))
            case measure => omega
            case rel => exact ⟨kk + 1, _, _, by omega, by omega, by go_num, Lib.hid (by rw [HTK.out]; exact HRS.out.snoc (.inr (.inr (.inl ⟨H2.out, HS.out⟩)))), T2⟩
          · have hw2 : (c.what == 2) = false := by simp [h2]
            have H2 := Lib.hid (And.intro h0 (And.intro h1 h2))
            clear h0 h1 h2
            have hbV : Below wr.heap.size wr (wr.alloc (.cells #[.int .i64 c.what, .int .i64 c.tx, .int .u8 (c.key.a.val : Int), .int .u8 (c.key.b.val : Int), .int .u8 (c.key.c.val : Int), .int .u8 (c.key.d.val : Int), .bool c.ex, .int .i64 c.now] 34)) := (Below.refl _ _).alloc (Nat.le_refl _) _
            have T2 := Lib.hid ((HT.out.still hbV).mono (show 2 * kk ≤ 2 * (kk + 1) by omega))
            clear hbV
            go_wp2_with fail
            go_roundg (n - (kk + 1))
            case measure => omega
            case rel => exact ⟨kk + 1, _, _, by omega, by omega, by go_num, Lib.hid (by rw [HTK.out]; exact HRS.out.snoc (.inr (.inr (.inr ⟨H2.out.1, H2.out.2.1, H2.out.2.2, rfl⟩)))), T2⟩
    · obtain rfl : kk = n := by omega
      go_wp2_with fail
      go_ret
      have e : cs.take kk = cs := by rw [← HN.out]; exact List.take_length
      rw [e] at HRS
      exact ⟨tb, F, st, rfl, HRS.out, HT.out⟩
end Go.Proofs.Ytnfodidfhnofkaa

/- The document's own table of locks in memory. -/
import Derived.Test.YtnfodidfhnofkaaAx
import Derived.Test.YtnfodidfhnofkaaIb
import Derived.BigQuiet
import Derived.StillTailTactics
namespace Go.Proofs.Ytnfodidfhnofkaa
open Go.RowKit Go.Deep Go.Maps Go.Lib

/-! ### rows -/
def hq (h : RHold) : List Value := [Value.int .i64 h.tx] ++ kv h.key ++ [Value.bool h.ex, Value.int .i64 h.since, Value.bool h.rises]
def HQ (h : RHold) : Value := .agg (hq h).toArray
theorem hq_len (h : RHold) : (hq h).length = 8 := rfl
theorem hq_one (h : RHold) : ∀ v ∈ hq h, v.oneCell' = true := by
  intro v hv
  simp only [hq, kv, List.cons_append, List.nil_append, List.mem_cons, List.not_mem_nil, or_false] at hv
  rcases hv with rfl | rfl | rfl | rfl | rfl | rfl | rfl | rfl <;> rfl
theorem HQ_def (h : RHold) : HQ h = .agg #[.int .i64 h.tx, .int .u8 (h.key.a.val : Int), .int .u8 (h.key.b.val : Int), .int .u8 (h.key.c.val : Int), .int .u8 (h.key.d.val : Int), .bool h.ex, .int .i64 h.since, .bool h.rises] := rfl
set_option maxRecDepth 100000 in
theorem infoHold : (Try.prog.info? 74).map (fun i => (i.zero, i.size, i.bytes)) = some (some (.agg #[.int .i64 0, .int .u8 0, .int .u8 0, .int .u8 0, .int .u8 0, .bool false, .int .i64 0, .bool false]), 8, 32) := by kernel_rfl
/-- A slice holds these. -/
def QRow (B : Nat) (w : World) (v : Value) (l : List RHold) : Prop := w.ownsRow B 74 8 v l.length (l.flatMap hq)
theorem QRow.nil (B : Nat) (w : World) : QRow B w (.slice none 0 0) [] := ⟨rfl, .inl ⟨rfl, rfl⟩⟩
theorem QRow.lt {B : Nat} {w : World} {v : Value} {l : List RHold} (h : QRow B w v l) : ∀ b, v.ownBlock = some b → B ≤ b ∧ b < w.heap.size := fun b hb => World.ownsRow.lt h b hb
theorem QRow.kept {B : Nat} {w w' : World} {v : Value} {l : List RHold} (h : QRow B w v l) (hb : ∀ b, v.ownBlock = some b → w'.heap[b]? = w.heap[b]?) : QRow B w' v l := by
  refine ⟨h.1, ?_⟩
  rcases h.2 with h0 | ⟨g, cap, cur, rfl, h2, h3, h4⟩
  · exact .inl h0
  · exact .inr ⟨g, cap, cur, rfl, h2, (hb g rfl).trans h3, h4⟩
theorem QRow.below {B : Nat} {w w' : World} {v : Value} {l : List RHold} (h : QRow B w v l) (hb : Below w.heap.size w w') : QRow B w' v l := h.kept fun k hk => hb.block k (h.lt k hk).2
theorem QRow.base {B B' : Nat} {w : World} {v : Value} {l : List RHold} (h : QRow B w v l) (hB : B' ≤ B) : QRow B' w v l := by
  refine ⟨h.1, ?_⟩
  rcases h.2 with h0 | ⟨g, cap, cur, h1, h2, h3⟩
  · exact .inl h0
  · exact .inr ⟨g, cap, cur, h1, Nat.le_trans hB h2, h3⟩
theorem QRow.slice {B : Nat} {w : World} {v : Value} {l : List RHold} (h : QRow B w v l) : ∃ A c, v = .slice A l.length c := by
  rcases h.2 with ⟨rfl, e⟩ | ⟨g, cap, _, rfl, _⟩
  · exact ⟨none, 0, by rw [e]⟩
  · exact ⟨_, _, rfl⟩
theorem QRow.at {B n c : Nat} {w : World} {A : Option Addr} {l : List RHold} (h : QRow B w (.slice A n c) l) (hl : 0 < l.length) : ∃ g, A = some ⟨g, 0, none⟩ ∧ B ≤ g ∧ g < w.heap.size ∧ l.length ≤ c := by
  rcases h.2 with ⟨e, h0⟩ | ⟨g, cap, cur, e, h1, h2, h3, h4⟩
  · omega
  · simp only [Value.slice.injEq] at e
    obtain ⟨rfl, _, rfl⟩ := e
    exact ⟨g, rfl, h1, (Array.getElem?_eq_some_iff.1 h2).1, h3⟩
theorem QRow.cell {B n c g : Nat} {w : World} {l : List RHold} (h : QRow B w (.slice (some ⟨g, 0, none⟩) n c) l) {i : Nat} {x : RHold} (hx : l[i]? = some x) : ∀ j v, (hq x)[j]? = some v → w.cell? ⟨g, i * 8 + j, none⟩ = some v := fun j v hj => by
  have hj8 : j < 8 := by have := (List.getElem?_eq_some_iff.1 hj).1; simpa [hq, kv] using this
  have h1 := flatMap_get hq_len l i j x hx hj8
  rcases h.2 with ⟨e, _⟩ | ⟨g', cap', cur, e, _, h2, _, _, _, h6⟩
  · cases e
  · simp only [Value.slice.injEq, Option.some.injEq, Addr.mk.injEq, and_true] at e
    obtain ⟨rfl, _, rfl⟩ := e
    have hil : i < l.length := (List.getElem?_eq_some_iff.1 hx).1
    have hlt : i * 8 + j < l.length * 8 := by omega
    rw [← h6, List.getElem?_take_of_lt hlt, Array.getElem?_toList, hj] at h1
    simp [World.cell?, h2, h1]
/-- The eight cells of element i. -/
theorem QRow.cells {B n c g : Nat} {w : World} {l : List RHold} (h : QRow B w (.slice (some ⟨g, 0, none⟩) n c) l) {i : Nat} {x : RHold} (hx : l[i]? = some x) :
    w.cell? ⟨g, i * 8, none⟩ = some (.int .i64 x.tx) ∧ w.cell? ⟨g, i * 8 + 1, none⟩ = some (.int .u8 (x.key.a.val : Int)) ∧ w.cell? ⟨g, i * 8 + 2, none⟩ = some (.int .u8 (x.key.b.val : Int)) ∧ w.cell? ⟨g, i * 8 + 3, none⟩ = some (.int .u8 (x.key.c.val : Int)) ∧ w.cell? ⟨g, i * 8 + 4, none⟩ = some (.int .u8 (x.key.d.val : Int)) ∧ w.cell? ⟨g, i * 8 + 5, none⟩ = some (.bool x.ex) ∧ w.cell? ⟨g, i * 8 + 6, none⟩ = some (.int .i64 x.since) ∧ w.cell? ⟨g, i * 8 + 7, none⟩ = some (.bool x.rises) :=
  ⟨h.cell hx 0 _ rfl, h.cell hx 1 _ rfl, h.cell hx 2 _ rfl, h.cell hx 3 _ rfl, h.cell hx 4 _ rfl, h.cell hx 5 _ rfl, h.cell hx 6 _ rfl, h.cell hx 7 _ rfl⟩

/-! ### the table -/
structure RefIn (w : World) (F : Nat → Prop) (tb m : Nat) (rs : RS) (hv qv : Value) : Prop where
  blk : w.heap[tb]? = some (.cells #[.int .i64 rs.wait, hv, qv] 61 (0, 0))
  hrow : QRow 0 w hv rs.holds
  qrow : QRow 0 w qv rs.queue
  sep : ∀ b, hv.ownBlock = some b → qv.ownBlock ≠ some b
  hF : ∀ b, hv.ownBlock = some b → F b ∧ b ≠ tb
  qF : ∀ b, qv.ownBlock = some b → F b ∧ b ≠ tb
  f1 : F tb
  lt : ∀ b, F b → b < w.heap.size
  len : rs.holds.length + rs.queue.length ≤ m
def RefAt (w : World) (F : Nat → Prop) (tb m : Nat) (rs : RS) : Prop := ∃ hv qv, RefIn w F tb m rs hv qv
theorem RefIn.moves {w w' : World} {F G : Nat → Prop} {tb m : Nat} {rs : RS} {hv qv : Value} (h : RefIn w F tb m rs hv qv) (hm : Moves G w w') (hd : ∀ b, F b → ¬ G b) : RefIn w' F tb m rs hv qv := by
  have hk : ∀ b, F b → w'.heap[b]? = w.heap[b]? := fun b hb => hm.block b (h.lt b hb) (hd b hb)
  exact ⟨(hk tb h.f1).trans h.blk, h.hrow.kept fun b hb => hk b (h.hF b hb).1, h.qrow.kept fun b hb => hk b (h.qF b hb).1, h.sep, h.hF, h.qF, h.f1, fun b hb => Nat.lt_of_lt_of_le (h.lt b hb) hm.size, h.len⟩
theorem RefIn.below {w w' : World} {F : Nat → Prop} {tb m : Nat} {rs : RS} {hv qv : Value} (h : RefIn w F tb m rs hv qv) (hb : Below w.heap.size w w') : RefIn w' F tb m rs hv qv := h.moves (moves_of_below (F := fun _ => False) hb) fun _ _ e => e
theorem RefAt.moves {w w' : World} {F G : Nat → Prop} {tb m : Nat} {rs : RS} (h : RefAt w F tb m rs) (hm : Moves G w w') (hd : ∀ b, F b → ¬ G b) : RefAt w' F tb m rs := by obtain ⟨_, _, h⟩ := h; exact ⟨_, _, h.moves hm hd⟩
theorem RefAt.below {w w' : World} {F : Nat → Prop} {tb m : Nat} {rs : RS} (h : RefAt w F tb m rs) (hb : Below w.heap.size w w') : RefAt w' F tb m rs := h.moves (moves_of_below (F := fun _ => False) hb) fun _ _ e => e
theorem RefAt.lt {w : World} {F : Nat → Prop} {tb m : Nat} {rs : RS} (h : RefAt w F tb m rs) : ∀ b, F b → b < w.heap.size := by obtain ⟨_, _, h⟩ := h; exact h.lt
def RefDoes (F : Nat → Prop) (tb m : Nat) (rs : RS) (v : Value) (w : World) (e : Ending) (w' : World) : Prop := e = .returned v ∧ RefAt w' (grow F w w') tb m rs ∧ Moves F w w'
theorem RefIn.c0 {w : World} {F : Nat → Prop} {tb m : Nat} {rs : RS} {hv qv : Value} (h : RefIn w F tb m rs hv qv) : w.cell? ⟨tb, 0, none⟩ = some (.int .i64 rs.wait) := by simp [World.cell?, h.blk]
theorem RefIn.c1 {w : World} {F : Nat → Prop} {tb m : Nat} {rs : RS} {hv qv : Value} (h : RefIn w F tb m rs hv qv) : w.cell? ⟨tb, 1, none⟩ = some hv := by simp [World.cell?, h.blk]
theorem RefIn.c2 {w : World} {F : Nat → Prop} {tb m : Nat} {rs : RS} {hv qv : Value} (h : RefIn w F tb m rs hv qv) : w.cell? ⟨tb, 2, none⟩ = some qv := by simp [World.cell?, h.blk]
theorem RefIn.tbl {w : World} {F : Nat → Prop} {tb m : Nat} {rs : RS} {hv qv : Value} (h : RefIn w F tb m rs hv qv) : tb < w.heap.size := h.lt tb h.f1
theorem howQ_drop {l : List RHold} {j : Nat} {x : RHold} (hx : l[j]? = some x) (tx : Int) (k : KeyT) : howQ (l.drop j) tx k = if isQ tx k x then wantN x.ex else howQ (l.drop (j + 1)) tx k := by
  obtain ⟨hl, rfl⟩ := List.getElem?_eq_some_iff.1 hx
  rw [List.drop_eq_getElem_cons hl]
  rfl

/-! ### New, How -/
set_option maxRecDepth 100000 in
set_option maxHeartbeats 1000000 in
theorem refNew_ok (wait : Int) (w : World) (h1 : 1 ≤ wait) (h2 : wait ≤ 1000) : Calls Try.prog 12 #[.int .i64 wait] w fun e w' => ∃ tb, e = .returned (.tuple #[.pointer (some ⟨tb, 0, none⟩), .int .i64 0]) ∧ RefAt w' (fun b => w.heap.size ≤ b ∧ b < w'.heap.size) tb 0 (newQ wait) ∧ Below w.heap.size w w' := by
  have d1 : decide (wait < 1) = false := decide_eq_false (by omega)
  have d2 : decide (1000 < wait) = false := decide_eq_false (by omega)
  go_enter Try.func12, Try.ntmps12
  go_wp2
  go_ret2
  refine ⟨_, rfl, ⟨_, _, heap_alloc_new w _, QRow.nil _ _, QRow.nil _ _, (fun b hb => by cases hb), (fun b hb => by cases hb), (fun b hb => by cases hb), ⟨Nat.le_refl _, by simp⟩, fun b hb => hb.2, by simp [newQ]⟩, (Below.refl _ w).alloc (Nat.le_refl _) _⟩
set_option maxRecDepth 100000 in
set_option maxHeartbeats 1000000 in
theorem refNew_no (wait : Int) (w : World) (h : wait < 1 ∨ 1000 < wait) : Calls Try.prog 12 #[.int .i64 wait] w fun e w' => e = .returned (.tuple #[.pointer none, .int .i64 11]) ∧ w = w' := by
  by_cases h1 : wait < 1
  · have d1 : decide (wait < 1) = true := decide_eq_true h1
    go_enter Try.func12, Try.ntmps12
    go_wp2
    go_ret2
    exact ⟨rfl, rfl⟩
  · have d1 : decide (wait < 1) = false := decide_eq_false h1
    have d2 : decide (1000 < wait) = true := decide_eq_true (by omega)
    go_enter Try.func12, Try.ntmps12
    go_wp2
    go_ret2
    exact ⟨rfl, rfl⟩
set_option maxRecDepth 100000 in
set_option maxHeartbeats 4000000 in
theorem refHow_any (F : Nat → Prop) (tb m : Nat) (rs : RS) (tx r : Int) (k : KeyT) (w : World) (h : RefAt w F tb m rs) (hm : m ≤ 1000) (hr : howQ rs.holds tx k = r) :
    Calls Try.prog 22 #[.pointer (some ⟨tb, 0, none⟩), .int .i64 tx, KV k] w fun e w' => e = .returned (.int .i64 r) ∧ Below w.heap.size w w' := by
  obtain ⟨hv, qv, h⟩ := h
  have HT := Lib.hid h
  obtain ⟨A, c, rfl⟩ := h.hrow.slice
  obtain ⟨N, hN⟩ : ∃ N, rs.holds.length = N := ⟨_, rfl⟩
  have hNm : N ≤ 1000 := by have := h.len; omega
  rw [hN] at h HT
  have HN := Lib.hid hN
  have HR := Lib.hid hr
  have tl := h.tbl
  have hbV : Below w.heap.size w (w.alloc (.cells #[.int .u8 (k.a.val : Int), .int .u8 (k.b.val : Int), .int .u8 (k.c.val : Int), .int .u8 (k.d.val : Int)] 24)) := (Below.refl _ w).alloc (Nat.le_refl _) _
  have hkV : KeyC (w.alloc (.cells #[.int .u8 (k.a.val : Int), .int .u8 (k.b.val : Int), .int .u8 (k.c.val : Int), .int .u8 (k.d.val : Int)] 24)) w.heap.size k := heap_alloc_new w _
  clear hN hr
  rw [KV_def]
  go_enter Try.func22, Try.ntmps22
  go_wp2_with fail
  generalize (w.alloc (.cells #[.int .u8 (k.a.val : Int), .int .u8 (k.b.val : Int), .int .u8 (k.c.val : Int), .int .u8 (k.d.val : Int)] 24)) = V at *
  have HTV := Lib.hid (HT.out.below hbV)
  have HBV := Lib.hid hbV
  have HSV := Lib.hid hbV.size
  have c1 := HTV.out.c1
  obtain ⟨k0, k1, k2, k3⟩ := hkV.cells
  have hkl := hkV.lt
  have tlV : tb < V.heap.size := HTV.out.tbl
  clear h hbV hkV tl
  go_loopg [7] N (fun gg s7 wq => ∃ j : Nat, j ≤ N ∧ N - j ≤ gg ∧ s7 = .int .i64 j ∧ Hid (howQ (rs.holds.drop j) tx k = r) ∧ Hid (Below V.heap.size V wq))
  case atStart => exact ⟨0, Nat.zero_le _, by omega, rfl, HR, Lib.hid (Below.refl _ _)⟩
  case round =>
    obtain ⟨j, hj, hgj, rfl, HRj, HB⟩ := hrel
    have c1 := (HTV.out.below HB.out).c1
    have tl := (HTV.out.below HB.out).tbl
    by_cases hjl : j < N
    · have hjz : (j : Int) < (N : Int) := by omega
      obtain ⟨x, hx⟩ : ∃ x, rs.holds[j]? = some x := ⟨_, List.getElem?_eq_getElem (by have := HN.out; omega)⟩
      obtain ⟨g, rfl, -, hgl, hNc⟩ := (HTV.out.below HB.out).hrow.at (by have := HN.out; omega)
      obtain ⟨x0, x1, x2, x3, x4, x5, x6, x7⟩ := (HTV.out.below HB.out).hrow.cells hx
      have q0 := (HB.out.cell (p := ⟨w.heap.size, 0, none⟩) hkl).trans k0
      have q1 := (HB.out.cell (p := ⟨w.heap.size, 1, none⟩) hkl).trans k1
      have q2 := (HB.out.cell (p := ⟨w.heap.size, 2, none⟩) hkl).trans k2
      have q3 := (HB.out.cell (p := ⟨w.heap.size, 3, none⟩) hkl).trans k3
      have hkl2 : w.heap.size < wr.heap.size := Nat.lt_of_lt_of_le hkl HB.out.size
      have heq := fun W => run_eqlKey x.key k W
      simp only [KV_def] at heq
      have hd := howQ_drop hx tx k
      rw [HRj.out] at hd
      unfold isQ at hd
      have HD := Lib.hid hd
      clear hx hd
      by_cases hxt : x.tx = tx
      · have e1 : (x.tx == tx) = true := by simp [hxt]
        rw [e1, Bool.true_and] at HD
        by_cases hxk : x.key = k
        · have e2 : decide (x.key = k) = true := decide_eq_true hxk
          rw [e2] at HD
          simp only [e2] at heq
          clear hxt hxk e2
          have hr : r = wantN x.ex := HD.out
          cases hex : x.ex with
          | true =>
            rw [hex] at x5 hr
            obtain rfl : r = 2 := hr
            clear hex
            go_wp2_with fail
            go_quiet (fail)
            go_wp2_with fail
            go_ret
            exact ⟨rfl, HBV.out.trans ((HB.out.trans ((below_drewN (Below.refl _ wr) _).mono HB.out.size)).mono HSV.out)⟩
          | false =>
            rw [hex] at x5 hr
            obtain rfl : r = 1 := hr
            clear hex
            go_wp2_with fail
            go_quiet (fail)
            go_wp2_with fail
            go_ret
            exact ⟨rfl, HBV.out.trans ((HB.out.trans ((below_drewN (Below.refl _ wr) _).mono HB.out.size)).mono HSV.out)⟩
        · have e2 : decide (x.key = k) = false := decide_eq_false hxk
          rw [e2] at HD
          simp only [e2] at heq
          clear hxt hxk e2
          go_wp2_with fail
          go_quiet (fail)
          go_wp2_with fail
          go_roundg (N - (j + 1))
          case measure => omega
          case rel => exact ⟨j + 1, by omega, by omega, by go_num, Lib.hid HD.out.symm, Lib.hid (HB.out.trans ((below_drewN (Below.refl _ wr) _).mono HB.out.size))⟩
      · have e1 : (x.tx == tx) = false := by simpa using hxt
        rw [e1, Bool.false_and] at HD
        clear hxt heq
        go_wp2_with fail
        go_quiet (fail)
        go_wp2_with fail
        go_roundg (N - (j + 1))
        case measure => omega
        case rel => exact ⟨j + 1, by omega, by omega, by go_num, Lib.hid HD.out.symm, Lib.hid (HB.out.trans ((below_drewN (Below.refl _ wr) _).mono HB.out.size))⟩
    · obtain rfl : j = N := by omega
      have hr : howQ (rs.holds.drop j) tx k = r := HRj.out
      rw [List.drop_eq_nil_of_le (by have := HN.out; omega)] at hr
      obtain rfl : r = 0 := hr.symm
      clear hr
      go_wp2_with fail
      go_ret
      exact ⟨rfl, HBV.out.trans (HB.out.mono HSV.out)⟩
end Go.Proofs.Ytnfodidfhnofkaa

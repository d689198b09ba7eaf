/- lock: Late (a loop over the wishes; the numbers that it gathers, sorted). -/
import Derived.Test.YtnfodidfhnofkaaBq
import Derived.Sort.OwnSortedInts
namespace Go.Proofs.Ytnfodidfhnofkaa
open Go.RowKit Go.Deep Go.Maps Go.Sort Go.Lib
set_option linter.unusedVariables false
set_option linter.unusedSimpArgs false
set_option linter.unusedSectionVars false
set_option linter.unnecessarySimpa false

theorem infoInt : (Try.prog.info? 3).map (fun i => (i.zero, i.size, i.bytes)) = some (some (.int .i64 0), 1, 8) := by kernel_rfl
/-- What a loop over a map has gathered: the keys behind it for which q says yes. -/
structure Got {α : Type} (ok : α → Prop) (f : α → Option Value) (q : α → Bool) (left : α → Bool) (ls : List α) : Prop where
  nd : ls.Nodup
  fine : ∀ x ∈ ls, ok x
  mem : ∀ x, ok x → (x ∈ ls ↔ (f x).isSome = true ∧ q x = true ∧ left x = false)
section
variable {α : Type} [DecidableEq α] {ok : α → Prop} {f : α → Option Value} {q : α → Bool} {left : α → Bool} {ls : List α}
theorem Got.start : Got ok f q (fun x => (f x).isSome) [] := ⟨List.nodup_nil, (fun x hx => by cases hx), fun x _ => ⟨(fun h => by cases h), fun ⟨h, _, h2⟩ => by rw [h] at h2; cases h2⟩⟩
theorem Got.skip (h : Got ok f q left ls) {x : α} (hq : q x = false) : Got ok f q (fun y => left y && !decide (y = x)) ls :=
  ⟨h.nd, h.fine, fun y hy => by
    rw [h.mem y hy]
    by_cases e : y = x
    · subst e; simp [hq]
    · simp [e]⟩
theorem Got.take (h : Got ok f q left ls) {x : α} (hx : ok x) (hl : left x = true) (hf : (f x).isSome = true) (hq : q x = true) : Got ok f q (fun y => left y && !decide (y = x)) (ls ++ [x]) := by
  have hn : x ∉ ls := fun hm => by have := ((h.mem x hx).1 hm).2.2; rw [hl] at this; cases this
  refine ⟨by rw [List.nodup_append]; exact ⟨h.nd, by simp, fun a ha b hb e => by simp at hb; exact hn (by rw [← hb, ← e]; exact ha)⟩, fun y hy => ?_, fun y hy => ?_⟩
  · rcases List.mem_append.1 hy with hy | hy
    · exact h.fine y hy
    · simp at hy; rw [hy]; exact hx
  · rw [List.mem_append, h.mem y hy]
    by_cases e : y = x
    · subst e; simp [hq, hf]
    · simp [e]
theorem Got.done (h : Got ok f q left ls) (hl : ∀ x, ok x → left x = false) (x : α) (hx : ok x) : x ∈ ls ↔ (f x).isSome = true ∧ q x = true := by
  rw [h.mem x hx]
  simp [hl x hx]
end
/-- A list of numbers, rising. -/
theorem rising_sorted {ls : List Int} (h : ls.Nodup) : (ls.mergeSort fun x y => decide (x ≤ y)).Pairwise (· < ·) := by
  have hp := List.mergeSort_perm ls (fun x y => decide (x ≤ y))
  have hn := hp.nodup_iff.2 h
  have hs : (ls.mergeSort fun x y => decide (x ≤ y)).Pairwise (fun x y => x ≤ y) := (List.pairwise_mergeSort (le := fun x y => decide (x ≤ y)) (fun a b c h1 h2 => by simp at *; omega) (fun a b => by simp; omega) ls).imp (fun h => by simpa using h)
  exact (hs.and hn).imp fun ⟨h1, h2⟩ => by omega
/-- A slice of numbers of the call's own. -/
def IntsAt (w : World) (base : Nat) (v : Value) (l : List Int) : Prop := w.ownsRow base 3 1 v l.length (l.map (Value.int .i64))
def lateB (st : PS) (now : Int) (t : Int) : Bool := match st.wish t with | some p => decide (p.since + st.wait ≤ now) | none => false
/-- What Late is to answer. -/
structure LateL (st : PS) (now : Int) (l : List Int) : Prop where
  up : l.Pairwise (· < ·)
  mem : ∀ t, t ∈ l ↔ lateB st now t = true
theorem late_done {st : PS} {now : Int} {left : Int → Bool} {ls : List Int} (hI : Inv st) (h : Got okI (wishF st) (lateB st now) left ls) (hl : ∀ x, okI x → left x = false) : LateL st now (ls.mergeSort fun x y => decide (x ≤ y)) := by
  refine ⟨rising_sorted h.nd, fun t => ?_⟩
  rw [(List.mergeSort_perm ls _).mem_iff]
  constructor
  · exact fun ht => ((h.done hl t (h.fine t ht)).1 ht).2
  · intro hq
    have hq' := hq
    unfold lateB at hq'
    cases hp : st.wish t with
    | none => rw [hp] at hq'; cases hq'
    | some p =>
      have hk : okI t := RowOK.okI (hI.ok p.key) t (hI.waits hp)
      exact (h.done hl t hk).2 ⟨by unfold wishF; rw [hp]; rfl, hq⟩
set_option maxRecDepth 100000 in
set_option maxHeartbeats 2000000 in
theorem late_any (F : Nat → Prop) (tb m : Nat) (st : PS) (now : Int) (w : World) (h : LockAt w F tb m st) (hm : m ≤ 10000) :
    Calls Try.prog 31 #[.pointer (some ⟨tb, 0, none⟩), .int .i64 now] w fun e w' => ∃ v l, e = .returned v ∧ IntsAt w' w.heap.size v l ∧ LateL st now l ∧ Below w.heap.size w w' := by
  have hI := h.1
  obtain ⟨_, rb, wb, g, h⟩ := h
  have wl := h.wbl
  have tl := h.tbl
  have c2 := h.c2
  have c0 := h.c0
  have hw1 := h.w1
  have hw2 := h.w2
  have HT := Lib.hid h
  have HI := Lib.hid hI
  obtain ⟨i0, hi, hz0, hz1, hz2⟩ := info_parts infoInt
  clear h hI
  go_enter Try.func31, Try.ntmps31
  go_wp2_with (first
    | (at_range; refine wpList_range_map kindInt rfl _ 56 rfl 68 Try.underlying56 wb m (wishF st) rfl HT.out.map2 ?_; intro w0 cnt0 hcnt0 hrg0 hg0 hs0)
    | fail)
  go_frame
  have hb0 : Below w.heap.size w w0 := (Below.refl _ w).grown hg0 (Nat.le_refl _) (fun k e => by cases e)
  go_loopw [5] (fun v wr => ∃ (left : Int → Bool) (cnt : Nat) (ls : List Int), Hid (RangeAt Try.prog 3 okI iLit wr wb w.heap.size m (wishF st) left cnt) ∧ wr.ownsRow (w.heap.size + 1) 3 1 v ls.length (ls.map (Value.int .i64)) ∧ Hid (Got okI (wishF st) (lateB st now) left ls) ∧ ls.length + cnt ≤ m ∧ Below w.heap.size w wr ∧ w.heap.size + 1 ≤ wr.heap.size)
    (fun _ wr => wr.rangeLeft wb w.heap.size)
  case atStart => exact ⟨_, cnt0, [], Lib.hid hrg0, World.ownsRow_nil _ _ _ _, Lib.hid Got.start, by simpa using hcnt0, hb0, by omega⟩
  case round =>
    obtain ⟨left, cnt, ls, HR, hrow, HG, hlen, hbl, hsr⟩ := hrel
    have c0r : wr.cell? ⟨tb, 0, none⟩ = some (.int .i64 st.wait) := (hbl.cell (p := ⟨tb, 0, none⟩) tl).trans c0
    go_wp2_with (first
      | (at_next; refine wpList_next_map kindInt rfl _ rfl wb w.heap.size m (wishF st) left cnt rfl HR.out ?_ ?_)
      | fail)
    · intro _ hl0
      have HL := Lib.hid (late_done HI.out HG.out hl0)
      have hl2 : (ls.mergeSort fun x y => decide (x ≤ y)).length = ls.length := List.length_mergeSort ls
      rcases hrow.2 with ⟨hnil, hk0⟩ | ⟨gb, cap, cur, hv, hbase, hb, h1, h2, h3, h4⟩
      · subst hnil
        obtain rfl : ls = [] := List.eq_nil_of_length_eq_zero hk0
        clear hrow
        go_wp2_with (go_at_call 52; refine (Try.slices_Sort_int_none none 0 _).mono ?_; rintro e w' ⟨rfl, rfl⟩)
        go_ret
        exact ⟨.slice none 0 0, [], rfl, World.ownsRow_nil _ _ _ _, by simpa using HL.out, hbl⟩
      · subst hv
        have hH : Holds (Value.int .i64) wr gb 0 ls.toArray := holds_of_blockI hb (by simpa using h4)
        have hgl : gb < wr.heap.size := (Array.getElem?_eq_some_iff.1 hb).1
        have HS := Lib.hid (Try.slices_Sort_int gb 0 cap ls wr hH hgl (by omega))
        have HRO := Lib.hid (fun nn os => ownsRow_sortedI (n := nn) (os := os) (base := w.heap.size) (ts := ls.mergeSort fun x y => decide (x ≤ y)) hl2 (by omega) hb h1 h2 h3)
        have HG2 := Lib.hid (fun nn os => grownBy_sortedI (w := wr) (g := gb) (n := nn) (os := os) (ls.mergeSort fun x y => decide (x ≤ y)).toArray)
        clear hrow hH h4 hb h3
        go_wp2_with (go_at_call 52; refine HS.out.mono ?_; rintro e w' ⟨rfl, nn, os, rfl⟩)
        go_ret
        refine ⟨_, _, rfl, ?_, HL.out, hbl.grown (HG2.out nn os) hbl.size (fun k e => by injection e with e; omega)⟩
        unfold IntsAt
        rw [hl2]
        exact HRO.out nn os
    · intro x v w1 cnt1 hx hlx hfx hrg1 hlt hg1 hs1 hen
      have HX := Lib.hid hfx
      obtain ⟨p, hp, rfl⟩ : ∃ p, st.wish x = some p ∧ v = wishV p := by
        unfold wishF at hfx
        cases hp : st.wish x with
        | none => rw [hp] at hfx; cases hfx
        | some p => rw [hp] at hfx; exact ⟨p, rfl, (Option.some.inj hfx).symm⟩
      obtain ⟨_, ha1, ha2⟩ := HI.out.all x p hp
      have hsum : IntKind.i64.wrap (p.since + st.wait) = p.since + st.wait := by rw [IntKind.wrap_i64]; omega
      have HQ := Lib.hid (show lateB st now x = decide (p.since + st.wait ≤ now) by unfold lateB; rw [hp])
      unfold wishV kv at hen
      simp only [List.cons_append, List.nil_append] at hen
      have hbl1 : Below w.heap.size w w1 := hbl.grown hg1 hbl.size (fun k e => by injection e with e; omega)
      have hrow1 : w1.ownsRow (w.heap.size + 1) 3 1 u5 ls.length (ls.map (Value.int .i64)) := hrow.kept hg1 (.inr fun e => by have := (hrow.lt _ e).1; omega)
      have HR1 := Lib.hid hrg1
      have hle1 := Lib.hid (RangeAt.left_eq HR.out)
      have c0' : w1.cell? ⟨tb, 0, none⟩ = some (.int .i64 st.wait) := (hbl1.cell (p := ⟨tb, 0, none⟩) tl).trans c0
      have hs2 := hbl1.size
      have tl1 : tb < w1.heap.size := by omega
      have hs3 : w.heap.size + 1 ≤ w1.heap.size := by omega
      have HS1 := Lib.hid hs1
      clear hp hfx hrg1 c0r hg1 hbl hrow hs1 hsr
      generalize ((p.key.a.val : Nat) : Int) = z0 at *
      generalize ((p.key.b.val : Nat) : Int) = z1 at *
      generalize ((p.key.c.val : Nat) : Int) = z2 at *
      generalize ((p.key.d.val : Nat) : Int) = z3 at *
      by_cases hle : p.since + st.wait ≤ now
      · have HT2 := Lib.hid (HG.out.take hx hlx (by rw [HX.out]; rfl) (by rw [HQ.out]; simpa using hle))
        have hd : decide (p.since + st.wait ≤ now) = true := by simpa using hle
        generalize p.since = z5 at *
        generalize p.want = z4 at *
        clear hle
        go_wp2_with fail
        have v5 : (w1.alloc (.cells #[.int .u8 z0, .int .u8 z1, .int .u8 z2, .int .u8 z3, .int .i64 z4, .int .i64 z5] 68)).cell? ⟨w1.heap.size, 5, none⟩ = some (.int .i64 z5) := by
          have e := heap_alloc_new w1 (.cells #[.int .u8 z0, .int .u8 z1, .int .u8 z2, .int .u8 z3, .int .i64 z4, .int .i64 z5] 68)
          simp only [World.cell?, e]
          rfl
        have v0 : (w1.alloc (.cells #[.int .u8 z0, .int .u8 z1, .int .u8 z2, .int .u8 z3, .int .i64 z4, .int .i64 z5] 68)).cell? ⟨tb, 0, none⟩ = some (.int .i64 st.wait) := (World.cell?_alloc_lt w1 _ ⟨tb, 0, none⟩ tl1).trans c0'
        have hrowV := hrow1.alloc (.cells #[.int .u8 z0, .int .u8 z1, .int .u8 z2, .int .u8 z3, .int .i64 z4, .int .i64 z5] 68)
        have hblV := hbl1.alloc hs2 (.cells #[.int .u8 z0, .int .u8 z1, .int .u8 z2, .int .u8 z3, .int .i64 z4, .int .i64 z5] 68)
        have HRV := Lib.hid (HR1.out.blocks (w' := (w1.alloc (.cells #[.int .u8 z0, .int .u8 z1, .int .u8 z2, .int .u8 z3, .int .i64 z4, .int .i64 z5] 68))) (Below.heap_alloc w1 _ wb (by omega)) (Below.heap_alloc w1 _ _ (by omega)))
        have hsV : (w1.alloc (.cells #[.int .u8 z0, .int .u8 z1, .int .u8 z2, .int .u8 z3, .int .i64 z4, .int .i64 z5] 68)).heap.size = w1.heap.size + 1 := World.size_alloc _ _
        generalize (w1.alloc (.cells #[.int .u8 z0, .int .u8 z1, .int .u8 z2, .int .u8 z3, .int .i64 z4, .int .i64 z5] 68)) = V at *
        have hv1 : w1.heap.size < V.heap.size := by omega
        have hv2 : tb < V.heap.size := by omega
        have hsv2 : w.heap.size + 1 ≤ V.heap.size := by omega
        have HSV := Lib.hid hsV
        clear hsV hrow1 c0' hbl1
        go_still_tail 8, (by kernel_rfl)
        change wpList _ _ _ _ _ V.drew
        replace hrowV : V.drew.ownsRow (w.heap.size + 1) 3 1 u5 ls.length (ls.map (Value.int .i64)) := hrowV
        replace hblV : Below w.heap.size w V.drew := below_drewN hblV 1
        replace HRV : Hid (RangeAt Try.prog 3 okI iLit V.drew wb w.heap.size m (wishF st) (fun y => left y && !decide (y = x)) cnt1) := HRV
        go_wp2_with (first
          | (at_builtin; refine wpList_append_own _ rfl _ _ 46 rfl (w.heap.size + 1) 3 i0 (.int .i64 0) 1 8 Try.underlying46 hi hz0 hz1 hz2 rfl (by decide) _ ls.length _ rfl (hrowV.alloc _) ⟨V.drew.heap.size, 0, none⟩ 1 1 [.int .i64 x] rfl rfl (cell_one_new _ _ _) (by simp [Value.oneCell']) (by simp only [maxLen]; omega) (by omega) (by simp; omega) ?_; intro v' w2 hown' hgrow _)
          | fail)
        have hb2 : Below w.heap.size w w2 := (hblV.alloc hblV.size _).grown hgrow (by have := hblV.size; simp; omega) (fun k e => by have := (hrowV.lt k e).1; omega)
        have hkb : ∀ b, b < w.heap.size + 1 → w2.heap[b]? = V.drew.heap[b]? := fun b hb => (hgrow.block b (by simp; omega) (fun e => by have := (hrowV.lt b e.symm).1; omega)).trans (Below.heap_alloc V.drew _ b (show b < V.heap.size by omega))
        have HR2 := Lib.hid (HRV.out.blocks (hkb wb (by omega)) (hkb w.heap.size (by omega)))
        have hsz2 : w.heap.size + 1 ≤ w2.heap.size := by have := hgrow.size; simp at this; omega
        go_roundw
        case rel => exact ⟨_, cnt1, ls ++ [x], HR2, by simpa [IntsAt] using hown', HT2, by simp; omega, hb2, hsz2⟩
        case measure => rw [RangeAt.left_eq HR2.out, hle1.out]; exact hlt
      · have HT2 := Lib.hid (HG.out.skip (x := x) (by rw [HQ.out]; simpa using hle))
        have hd : decide (p.since + st.wait ≤ now) = false := by simpa using hle
        generalize p.since = z5 at *
        generalize p.want = z4 at *
        clear hle
        go_wp2_with fail
        have v5 : (w1.alloc (.cells #[.int .u8 z0, .int .u8 z1, .int .u8 z2, .int .u8 z3, .int .i64 z4, .int .i64 z5] 68)).cell? ⟨w1.heap.size, 5, none⟩ = some (.int .i64 z5) := by
          have e := heap_alloc_new w1 (.cells #[.int .u8 z0, .int .u8 z1, .int .u8 z2, .int .u8 z3, .int .i64 z4, .int .i64 z5] 68)
          simp only [World.cell?, e]
          rfl
        have v0 : (w1.alloc (.cells #[.int .u8 z0, .int .u8 z1, .int .u8 z2, .int .u8 z3, .int .i64 z4, .int .i64 z5] 68)).cell? ⟨tb, 0, none⟩ = some (.int .i64 st.wait) := (World.cell?_alloc_lt w1 _ ⟨tb, 0, none⟩ tl1).trans c0'
        have hrowV := hrow1.alloc (.cells #[.int .u8 z0, .int .u8 z1, .int .u8 z2, .int .u8 z3, .int .i64 z4, .int .i64 z5] 68)
        have hblV := hbl1.alloc hs2 (.cells #[.int .u8 z0, .int .u8 z1, .int .u8 z2, .int .u8 z3, .int .i64 z4, .int .i64 z5] 68)
        have HRV := Lib.hid (HR1.out.blocks (w' := (w1.alloc (.cells #[.int .u8 z0, .int .u8 z1, .int .u8 z2, .int .u8 z3, .int .i64 z4, .int .i64 z5] 68))) (Below.heap_alloc w1 _ wb (by omega)) (Below.heap_alloc w1 _ _ (by omega)))
        have hsV : (w1.alloc (.cells #[.int .u8 z0, .int .u8 z1, .int .u8 z2, .int .u8 z3, .int .i64 z4, .int .i64 z5] 68)).heap.size = w1.heap.size + 1 := World.size_alloc _ _
        generalize (w1.alloc (.cells #[.int .u8 z0, .int .u8 z1, .int .u8 z2, .int .u8 z3, .int .i64 z4, .int .i64 z5] 68)) = V at *
        have hv1 : w1.heap.size < V.heap.size := by omega
        have hv2 : tb < V.heap.size := by omega
        have hsv2 : w.heap.size + 1 ≤ V.heap.size := by omega
        have HSV := Lib.hid hsV
        clear hsV hrow1 c0' hbl1
        go_still_tail 8, (by kernel_rfl)
        change wpList _ _ _ _ _ V.drew
        replace hrowV : V.drew.ownsRow (w.heap.size + 1) 3 1 u5 ls.length (ls.map (Value.int .i64)) := hrowV
        replace hblV : Below w.heap.size w V.drew := below_drewN hblV 1
        replace HRV : Hid (RangeAt Try.prog 3 okI iLit V.drew wb w.heap.size m (wishF st) (fun y => left y && !decide (y = x)) cnt1) := HRV
        go_wp2_with fail
        go_roundw
        case rel => exact ⟨_, cnt1, ls, HRV, hrowV, HT2, by omega, hblV, hsv2⟩
        case measure => rw [RangeAt.left_eq HRV.out, hle1.out]; exact hlt
end Go.Proofs.Ytnfodidfhnofkaa

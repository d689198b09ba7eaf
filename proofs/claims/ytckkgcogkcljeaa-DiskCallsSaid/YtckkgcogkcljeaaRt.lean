/- The document's own disk: New. -/
import Derived.Test.YtckkgcogkcljeaaRs
namespace Go.Proofs.Ytckkgcogkcljeaa
open Go.RowKit Go.Deep Go.Maps
attribute [local go_sem ↓] Go.wp_at_zero Go.wp_at_succ

theorem apart_types {w : World} {a b : Nat} {C D : Array Value} {t u : TypeId} {f g : Nat × Nat} (h : w.heap[a]? = some (.cells C t f)) (k : w.heap[b]? = some (.cells D u g)) (hne : t ≠ u) : a ≠ b := by
  rintro rfl
  rw [h] at k
  injection k with k
  injection k with _ k _
  exact hne k
theorem row_block {w : World} {base : Nat} {e : TypeId} {size : Nat} {v : Value} {n : Nat} {xs : List Value} (h : w.ownsRow base e size v n xs) {k : Nat} (hk : v.ownBlock = some k) : ∃ C fr, w.heap[k]? = some (.cells C e fr) := by
  rcases h.2 with ⟨rfl, _⟩ | ⟨g, cap, cur, rfl, _, hg, _⟩
  · cases hk
  · have e : g = k := by simpa [Value.ownBlock] using hk
    subst e
    exact ⟨cur, _, hg⟩
theorem heap2 (w : World) (o o' : Obj) : ((w.alloc o).alloc o').drew.heap[w.heap.size + 1]? = some o' := by
  have := heap_alloc_new (w.alloc o) o'
  rw [show (w.alloc o).heap.size = w.heap.size + 1 by simp] at this
  exact this
structure NewIn (B : Nat) (w : World) (rb : Nat) (sv : Value) (j : Nat) (vs : List Value) : Prop where
  blk : ∃ C, w.heap[rb]? = some (.cells C 45)
  r0 : w.cell? ⟨rb, 0, none⟩ = some sv
  r1 : w.cell? ⟨rb, 1, none⟩ = some (.slice none 0 0)
  f0 : w.frozen? ⟨rb, 0, none⟩ = false
  f1 : w.frozen? ⟨rb, 1, none⟩ = false
  srow : w.ownsRow B 32 1 sv j vs
  sdat : ∀ v ∈ vs, Owns B w v zeros32
theorem NewIn.step {B : Nat} {w w1 : World} {rb : Nat} {sv : Value} {j : Nat} {vs : List Value} {o2 : Obj} {g cap : Nat} (h : NewIn B w rb sv j vs) (hB : B ≤ w.heap.size) (hrb : rb < w.heap.size)
    (hown : w1.ownsRow B 32 1 (.slice (some ⟨g, 0, none⟩) (j + 1) cap) (j + 1) (vs ++ [.slice (some ⟨w.heap.size, 0, none⟩) 32 32])) (hgrow : ((w.alloc (.cells (madeCells #[Value.int .u8 0] 32) 5)).alloc o2).grownBy w1 sv.ownBlock)
    (hat : sv.ownBlock = some g ∨ g = w.heap.size + 2) : NewIn B (w1.setCell ⟨rb, 0, none⟩ (.slice (some ⟨g, 0, none⟩) (j + 1) cap)) rb (.slice (some ⟨g, 0, none⟩) (j + 1) cap) (j + 1) (vs ++ [.slice (some ⟨w.heap.size, 0, none⟩) 32 32]) := by
  obtain ⟨C0, hb0⟩ := h.blk
  have hs : w.heap.size + 2 ≤ w1.heap.size := by have := hgrow.size; simpa using this
  have hk : ∀ c, c < w.heap.size → sv.ownBlock ≠ some c → w1.heap[c]? = w.heap[c]? := fun c hc hne => by
    rw [hgrow.block c (by simp; omega) (fun e => hne e.symm), Below.heap_alloc _ _ _ (by simp; omega), Below.heap_alloc _ _ _ hc]
  have hsvrb : sv.ownBlock ≠ some rb := fun e => by
    obtain ⟨C, fr, hb⟩ := row_block h.srow e
    exact apart_types hb hb0 (by decide) rfl
  have hrb1 := hk rb hrb hsvrb
  have hgrb : g ≠ rb := by
    rcases hat with e | e
    · exact fun x => hsvrb (x ▸ e)
    · omega
  have hn : w1.heap[w.heap.size]? = some (.cells (madeCells #[Value.int .u8 0] 32) 5) := by
    rw [hgrow.block w.heap.size (by simp; omega) (fun e => by have := (h.srow.lt _ e.symm).2; omega), Below.heap_alloc _ _ _ (by simp), heap_alloc_new]
  have k0 : w1.cell? ⟨rb, 0, none⟩ = some sv := (World.cell?_of_block (a := ⟨rb, 0, none⟩) hrb1).trans h.r0
  have hset : ∀ c, c ≠ rb → (w1.setCell ⟨rb, 0, none⟩ (.slice (some ⟨g, 0, none⟩) (j + 1) cap)).heap[c]? = w1.heap[c]? := fun c hc => RowKit.Below.heap_setCell _ _ _ _ hc
  refine ⟨?_, World.cell?_setCell_same _ _ _ k0, ?_, (World.frozen?_setCell _ _ _ _).trans ((World.frozen?_of_block (a := ⟨rb, 0, none⟩) hrb1).trans h.f0), (World.frozen?_setCell _ _ _ _).trans ((World.frozen?_of_block (a := ⟨rb, 1, none⟩) hrb1).trans h.f1), row_kept hown (fun k hk' => ?_), fun v hv => ?_⟩
  · exact ⟨_, heap_setCell_same w1 rb 0 C0 45 (.slice (some ⟨g, 0, none⟩) (j + 1) cap) (hrb1.trans hb0)⟩
  · rw [World.cell?_setCell_other _ _ _ _ (by simp)]
    exact (World.cell?_of_block (a := ⟨rb, 1, none⟩) hrb1).trans h.r1
  · have e : g = k := by simpa [Value.ownBlock] using hk'
    subst e
    exact hset g hgrb
  · rcases List.mem_append.1 hv with hv | hv
    · refine row_kept (h.sdat v hv) (fun k hk' => ?_)
      obtain ⟨Ck, frk, hbk⟩ := row_block (h.sdat v hv) hk'
      have hlt := (World.ownsRow.lt (h.sdat v hv) k hk').2
      rw [hset k (apart_types hbk hb0 (by decide))]
      refine hk k hlt (fun e => ?_)
      obtain ⟨C, fr, hb⟩ := row_block h.srow e
      exact apart_types hbk hb (by decide) rfl
    · rw [List.mem_singleton] at hv
      subst hv
      refine ⟨rfl, .inr ⟨w.heap.size, 32, _, rfl, hB, (hset _ (by omega)).trans hn, Nat.le_refl _, by simp only [maxLen]; omega, size_madeCells _ _, ?_⟩⟩
      rw [made_one]
      rfl
theorem NewIn.below {B : Nat} {w w' : World} {rb : Nat} {sv : Value} {j : Nat} {vs : List Value} (h : NewIn B w rb sv j vs) (hrb : rb < w.heap.size) (hb : Below w.heap.size w w') : NewIn B w' rb sv j vs := by
  have h0 := hb.block rb hrb
  obtain ⟨C, hbb⟩ := h.blk
  exact ⟨⟨C, h0.trans hbb⟩, (World.cell?_of_block (a := ⟨rb, 0, none⟩) h0).trans h.r0, (World.cell?_of_block (a := ⟨rb, 1, none⟩) h0).trans h.r1, (World.frozen?_of_block (a := ⟨rb, 0, none⟩) h0).trans h.f0, (World.frozen?_of_block (a := ⟨rb, 1, none⟩) h0).trans h.f1, row_kept h.srow (fun k hk => hb.block k (h.srow.lt k hk).2), fun v hv => row_kept (h.sdat v hv) (fun k hk => hb.block k (World.ownsRow.lt (h.sdat v hv) k hk).2)⟩
theorem secAt_new (n i : Nat) (hi : i < n) : secAt (newS n).safe i = zeros32 := by simp [secAt, newS, hi]
def RNewSays (n : Nat) (w : World) (e : Ending) (w' : World) : Prop := ∃ G rb, e = .returned (.tuple #[.pointer (some ⟨rb, 0, none⟩), .int .i64 0]) ∧ RefAt w' G rb n (newS n) ∧ (∀ k, G k → w.heap.size ≤ k) ∧ Below w.heap.size w w'
theorem NewIn.done {B : Nat} {w : World} {rb : Nat} {sv : Value} {n : Nat} {vs : List Value} (h : NewIn B w rb sv n vs) (h1 : 1 ≤ n) (h2 : n ≤ 40) (hrb : rb < w.heap.size) (hB : B ≤ rb) : RefAt w (fun k => B ≤ k ∧ k < w.heap.size) rb n (newS n) := by
  have hl : vs.length = n := by have := h.srow.1; omega
  refine ⟨sv, .slice none 0 0, vs, [], ⟨h.blk, h.r0, h.r1, h.f0, h.f1, ⟨h.srow.1, ?_⟩, World.ownsRow_nil _ _ _ _, fun i v hv => ?_, (fun e he => by cases he), rfl, newS_wf n, h1, h2⟩, ⟨hB, hrb⟩, fun k hk => h.srow.lt k hk, (fun k hk => by cases hk), fun v hv k hk => World.ownsRow.lt (h.sdat v hv) k hk, (fun e he => by cases he), fun k hk => hk.2⟩
  · rcases h.srow.2 with a | ⟨g, cap, cur, a1, a2, a3⟩
    · exact .inl a
    · exact .inr ⟨g, cap, cur, a1, Nat.zero_le _, a3⟩
  · have hi : i < n := by
      rcases Nat.lt_or_ge i vs.length with hlt | hge
      · omega
      · rw [List.getElem?_eq_none hge] at hv; cases hv
    rw [secAt_new n i hi]
    have hv' := h.sdat v (List.mem_of_getElem? hv)
    refine ⟨hv'.1, ?_⟩
    rcases hv'.2 with a | ⟨g, cap, cur, a1, a2, a3⟩
    · exact .inl a
    · exact .inr ⟨g, cap, cur, a1, Nat.zero_le _, a3⟩
set_option maxRecDepth 100000 in
set_option maxHeartbeats 2000000 in
theorem rnew_ok (n : Nat) (w : World) (h1 : 1 ≤ n) (h2 : n ≤ 40) : Calls Try.prog 12 #[.int .i64 n] w (RNewSays n w) := by
  have hmk : ∀ w : World, (Instr.makeSlice 32 (.int .i64 32) (.int .i64 32)).run Try.prog w = .ok (.slice (some ⟨w.heap.size, 0, none⟩) 32 32) (w.alloc (.cells (madeCells #[Value.int .u8 0] 32) 5)) := by
    obtain ⟨i0, hi, hz0, hz1, hz2⟩ := info_parts info_u8
    intro w
    have := run_make (P := Try.prog) w 32 5 i0 _ Try.underlying32 hi hz0 .i64 .i64 32 32 (by omega) (by omega) (by rw [hz2]; omega) (by omega)
    rw [hz1] at this
    simpa [Value.cells] using this
  obtain ⟨i0, hi0, hz0, hz1, hz2⟩ := info_parts info_bs
  have d1 : decide ((n : Int) < 1) = false := by simp; omega
  have d2 : decide ((512 : Int) < (n : Int)) = false := by simp; omega
  have hn0 : NewIn w.heap.size (w.alloc (.cells #[.slice none 0 0, .slice none 0 0] 45)) w.heap.size (.slice none 0 0) 0 [] := by
    have hb := heap_alloc_new w (.cells #[.slice none 0 0, .slice none 0 0] 45)
    exact ⟨⟨_, hb⟩, by rw [cell_of_row _ _ _ _ _ _ hb]; rfl, by rw [cell_of_row _ _ _ _ _ _ hb]; rfl, by have := (there_of_cells hb 2 (by simp) 0 (by omega)).2; exact this, by have := (there_of_cells hb 2 (by simp) 1 (by omega)).2; exact this, World.ownsRow_nil _ _ _ _, (fun v hv => by cases hv)⟩
  have HN := Lib.hid hn0
  clear hn0
  go_enter Try.func12, Try.ntmps12
  go_wp2
  go_loopw [5] (fun k wr => ∃ (j : Nat) (sv : Value) (vs : List Value), j ≤ n ∧ k = .int .i64 j ∧ NewIn w.heap.size wr w.heap.size sv j vs ∧ Below w.heap.size w wr ∧ w.heap.size < wr.heap.size) (fun k _ => n - (intOf k).toNat)
  case atStart => exact ⟨0, _, _, by omega, rfl, HN.out, (Below.refl _ _).alloc (Nat.le_refl _) _, by simp⟩
  case round =>
    obtain ⟨j, sv, vs, hj, rfl, hn, hb, hsz⟩ := hrel
    by_cases hlt : j < n
    · have hlt' : (j : Int) < (n : Int) := by omega
      have r0 := hn.r0
      have r0a : ∀ o : Obj, (wr.alloc o).cell? ⟨w.heap.size, 0, none⟩ = some sv := fun o => (World.cell?_alloc_lt wr o ⟨w.heap.size, 0, none⟩ hsz).trans r0
      have r0b : ∀ o o' : Obj, ((wr.alloc o).alloc o').cell? ⟨w.heap.size, 0, none⟩ = some sv := fun o o' => (World.cell?_alloc_lt (wr.alloc o) o' ⟨w.heap.size, 0, none⟩ (by simp; omega)).trans (r0a o)
      have f0 := hn.f0
      have f0b : ∀ o o' : Obj, ((wr.alloc o).alloc o').frozen? ⟨w.heap.size, 0, none⟩ = false := fun o o' => (World.frozen?_alloc_past _ w.heap.size 0 (by simp; omega)).trans ((World.frozen?_alloc_past _ w.heap.size 0 hsz).trans f0)
      have HNW := Lib.hid hn
      have HB := Lib.hid hb
      have hsr := Lib.hid hn.srow
      have hnsv : some w.heap.size ≠ sv.ownBlock := fun e => by
        obtain ⟨C, fr, hbk⟩ := row_block hn.srow e.symm
        obtain ⟨C0, hb0⟩ := hn.blk
        exact apart_types hbk hb0 (by decide) rfl
      have hswb := hb.size
      clear hn hb
      go_wp2
      go_region_law ((refine step_append_lies _ (by rfl) _ _ _ (by rfl) w.heap.size 32 i0 _ 1 24 Try.underlying42 hi0 hz0 hz1 hz2 (by rfl) (by omega) sv j vs (by rfl) (by first | exact ((hsr.out.alloc _).alloc _) | exact ((hsr.out.alloc _).alloc _).drew) ⟨wr.heap.size + 1, 0, none⟩ 1 1 [.slice (some ⟨wr.heap.size, 0, none⟩) 32 32] (by rfl) (by rfl) (World.news_of_block (cs := #[.slice (some ⟨wr.heap.size, 0, none⟩) 32 32]) (t := 32) (fr := (0, 0)) (heap2 wr _ _)) (by simp [Value.oneCell']) (by omega) (by simp only [maxLen]; omega) (by omega) (by simp; omega) (wr.heap.size + 2) (by simp) ?_; intro g cap w1 hown hgrow hat hlt1; have k0 : w1.cell? ⟨w.heap.size, 0, none⟩ = some sv := (World.cell?_of_block (a := ⟨w.heap.size, 0, none⟩) (hgrow.block w.heap.size (by simp; omega) hnsv)).trans (r0b _ _); have kf : w1.frozen? ⟨w.heap.size, 0, none⟩ = false := (World.frozen?_of_block (a := ⟨w.heap.size, 0, none⟩) (hgrow.block w.heap.size (by simp; omega) hnsv)).trans (f0b _ _)))
      all_goals
        have hgrow' : ((wr.alloc (.cells (madeCells #[Value.int .u8 0] 32) 5)).alloc (.cells #[.slice (some ⟨wr.heap.size, 0, none⟩) 32 32] 32)).grownBy w1 sv.ownBlock := ⟨hgrow.os, hgrow.tape, hgrow.output, hgrow.size, hgrow.block⟩
        have hst := HNW.out.step (by omega) hsz hown hgrow' hat
        have hbl : Below w.heap.size w (w1.setCell ⟨w.heap.size, 0, none⟩ (.slice (some ⟨g, 0, none⟩) (j + 1) cap)) := (((HB.out.alloc hswb _).alloc (by simp; omega) _).grown hgrow' (by simp; omega) (fun k e => (hsr.out.lt k e).1)).setCell (Nat.le_refl _) _
        have hszz : w.heap.size < (w1.setCell ⟨w.heap.size, 0, none⟩ (.slice (some ⟨g, 0, none⟩) (j + 1) cap)).heap.size := by have := hgrow'.size; simp at this ⊢; omega
        have HST := Lib.hid hst
        have HBL := Lib.hid hbl
        have HSZ := Lib.hid hszz
        clear hst hbl hszz hgrow hgrow' hown k0 kf r0 r0a r0b f0 f0b
        go_wp2
        go_roundw
        case rel => exact ⟨j + 1, _, _, by omega, by go_num, HST.out, HBL.out, HSZ.out⟩
        case measure => simp [intOf]; omega
    · obtain rfl : j = n := by omega
      have HNW := Lib.hid hn
      have HB := Lib.hid hb
      clear hn hb
      go_wp2
      go_ret2
      exact ⟨_, w.heap.size, rfl, HNW.out.done h1 h2 hsz (Nat.le_refl _), fun k hk => hk.1, HB.out⟩
theorem rnew_no (n : Int) (w : World) (h : n < 1 ∨ 512 < n) : Calls Try.prog 12 #[.int .i64 n] w fun e w' => e = .returned (.tuple #[.pointer none, .int .i64 11]) ∧ w = w' := by
  rcases h with h | h
  · have h1 : decide (n < 1) = true := by simpa using h
    go_enter Try.func12, Try.ntmps12
    go_wp2
    go_ret2
    exact ⟨rfl, rfl⟩
  · have h1 : decide (n < 1) = false := by simp; omega
    have h2 : decide (512 < n) = true := by simpa using h
    go_enter Try.func12, Try.ntmps12
    go_wp2
    go_ret2
    exact ⟨rfl, rfl⟩
end Go.Proofs.Ytckkgcogkcljeaa

/- disk: there, Sectors, Loose, New, Read, Image. -/
import Derived.Test.YtckkgcogkcljeaaDb
namespace Go.Proofs.Ytckkgcogkcljeaa
open Go.RowKit Go.Deep Go.Maps

set_option maxHeartbeats 400000 in
theorem there_any (db lb n : Nat) (i : Int) (w : World) (c0 : w.cell? ⟨db, 0, none⟩ = some (.slice (some ⟨lb, 0, none⟩) n n)) :
    Calls Try.prog 29 #[.pointer (some ⟨db, 0, none⟩), .int .i64 i] w fun e w' => e = .returned (.bool (goodAt n i)) ∧ w = w' := by
  unfold goodAt
  by_cases h0 : 0 ≤ i
  · have h1 : decide (0 ≤ i) = true := by simpa using h0
    rw [h1]
    go_enter Try.func29, Try.ntmps29
    go_wp2
    go_ret
    exact ⟨by simp, rfl⟩
  · have h1 : decide (0 ≤ i) = false := by simpa using h0
    rw [h1]
    go_enter Try.func29, Try.ntmps29
    go_wp2
    go_ret
    exact ⟨by simp, rfl⟩
set_option maxHeartbeats 400000 in
theorem sectors_any (db lb n : Nat) (w : World) (c0 : w.cell? ⟨db, 0, none⟩ = some (.slice (some ⟨lb, 0, none⟩) n n)) :
    Calls Try.prog 24 #[.pointer (some ⟨db, 0, none⟩)] w fun e w' => e = .returned (.int .i64 n) ∧ w = w' := by
  go_enter Try.func24, Try.ntmps24
  go_wp2
  go_ret
  exact ⟨rfl, rfl⟩
set_option maxHeartbeats 400000 in
theorem loose_any (db n c : Nat) (A : Option Addr) (w : World) (c0 : w.cell? ⟨db, 1, none⟩ = some (.slice A n c)) :
    Calls Try.prog 23 #[.pointer (some ⟨db, 0, none⟩)] w fun e w' => e = .returned (.int .i64 n) ∧ w = w' := by
  go_enter Try.func23, Try.ntmps23
  go_wp2
  go_ret
  exact ⟨rfl, rfl⟩

def zeros32 : List Int := List.replicate 32 0
def newS (n : Nat) : St := { safe := List.replicate n zeros32, cache := [] }
theorem newS_wf (n : Nat) : Wf n (newS n) := ⟨by simp [newS], fun z hz => by
  have := List.eq_of_mem_replicate hz
  subst this
  rfl, (fun _ hp => by cases hp), (fun _ hp => by cases hp)⟩
theorem made_at (n j : Nat) (hj : j < n * 32) : (madeCells (Array.replicate 32 (Value.int .u8 0)) (n * 32))[j]? = some (.int .u8 0) := by
  have h1 : j % 32 < 32 := Nat.mod_lt _ (by omega)
  simp [madeCells, hj, h1]
theorem secs_made {w : World} {lb n : Nat} {C : Array Value} {t : TypeId} (hb : w.heap[lb]? = some (.cells C t)) (hC : ∀ j, j < n * 32 → C[j]? = some (.int .u8 0)) : Secs w lb (newS n).safe := by
  intro i hi
  simp only [newS, List.length_replicate] at hi
  have hs : secAt (newS n).safe i = zeros32 := by simp [secAt, newS, hi]
  rw [hs]
  refine ⟨fun j v hv => ?_, fun j hj => ?_⟩
  · have hj : j < 32 := by
      rcases Nat.lt_or_ge j 32 with h | h
      · exact h
      · rw [List.getElem?_eq_none (by simpa [secC, zeros32] using h)] at hv; cases hv
    have e : v = .int .u8 0 := by
      have hm := List.mem_of_getElem? hv
      simp only [secC, List.mem_map] at hm
      obtain ⟨z, hz, rfl⟩ := hm
      rw [List.eq_of_mem_replicate hz]
    subst e
    rw [cell_of_row w lb (i * 32 + j) C t _ hb]
    exact hC _ (by omega)
  · have hc : w.cell? ⟨lb, i * 32 + j, none⟩ = some (.int .u8 0) := by rw [cell_of_row w lb (i * 32 + j) C t _ hb]; exact hC _ (by omega)
    refine ⟨by rw [hc]; rfl, ?_⟩
    simp [World.frozen?, hb]
theorem info_sec : (Try.prog.info? 61).map (fun i => (i.zero, i.size, i.bytes)) = some (some (.agg (Array.replicate 32 (Value.int .u8 0))), 32, 32) := by kernel_rfl

def NewSays (n : Nat) (w : World) (e : Ending) (w' : World) : Prop := ∃ db, e = .returned (.tuple #[.pointer (some ⟨db, 0, none⟩), .int .i64 0]) ∧ DiskAt w' (fun k => w.heap.size ≤ k ∧ k < w'.heap.size) db n (newS n) ∧ Below w.heap.size w w'
theorem diskIn_new (w : World) (n : Nat) (h1 : 1 ≤ n) (h2 : n ≤ 512) (C : Array Value) (hC : ∀ j, j < n * 32 → C[j]? = some (.int .u8 0)) :
    DiskIn (((w.alloc (.cells C 61)).alloc (.map #[] 0)).alloc (.cells #[.slice (some ⟨w.heap.size, 0, none⟩) n n, .slice none 0 0, .map (some (w.heap.size + 1))] 58)) (w.heap.size + 1 + 1) w.heap.size (w.heap.size + 1) (.slice none 0 0) n (newS n) := by
  have e1 : (w.alloc (.cells C 61)).heap.size = w.heap.size + 1 := by simp
  have e2 : ((w.alloc (.cells C 61)).alloc (.map #[] 0)).heap.size = w.heap.size + 1 + 1 := by simp
  generalize hd : (Obj.cells #[.slice (some ⟨w.heap.size, 0, none⟩) n n, .slice none 0 0, .map (some (w.heap.size + 1))] 58) = D
  have b0 : (((w.alloc (.cells C 61)).alloc (.map #[] 0)).alloc D).heap[w.heap.size]? = some (.cells C 61) := by
    rw [Below.heap_alloc _ _ _ (by simp; omega), Below.heap_alloc _ _ _ (by simp), heap_alloc_new]
  have b1 : (((w.alloc (.cells C 61)).alloc (.map #[] 0)).alloc D).heap[w.heap.size + 1]? = some (.map #[] 0) := by
    rw [Below.heap_alloc _ _ _ (by simp), ← e1, heap_alloc_new]
  have b2 : (((w.alloc (.cells C 61)).alloc (.map #[] 0)).alloc D).heap[w.heap.size + 1 + 1]? = some D := by
    rw [← e2, heap_alloc_new]
  have hz : (((w.alloc (.cells C 61)).alloc (.map #[] 0)).alloc D).heap.size = w.heap.size + 3 := by simp
  generalize (((w.alloc (.cells C 61)).alloc (.map #[] 0)).alloc D) = W at *
  subst hd
  refine { c0 := by simp [World.cell?, b2], c1 := by simp [World.cell?, b2], c2 := by simp [World.cell?, b2], fz := by simp [World.frozen?, b2], secs := secs_made b0 hC, row := World.ownsRow_nil _ _ _ _, map := ⟨#[], 0, b1, ⟨by simp, MapKept.stamped_empty 0, by simp⟩, Nat.le_refl _, rfl⟩, wf := newS_wf n, n1 := h1, n2 := h2, lt0 := by omega, lt1 := by omega, ne1 := by omega, ne2 := by omega, ne3 := by omega, ne4 := by simp [Value.ownBlock], ne5 := by simp [Value.ownBlock], ne6 := by simp [Value.ownBlock] }
set_option maxHeartbeats 1000000 in
theorem new_ok (n : Nat) (w : World) (h1 : 1 ≤ n) (h2 : n ≤ 512) : Calls Try.prog 11 #[.int .i64 n] w (NewSays n w) := by
  obtain ⟨i0, hi, hz0, hz1, hz2⟩ := info_parts info_sec
  have hmk : ∀ w : World, (Instr.makeSlice 54 (.int .i64 (n : Int)) (.int .i64 (n : Int))).run Try.prog w = .ok (.slice (some ⟨w.heap.size, 0, none⟩) n n) (w.alloc (.cells (madeCells (Array.replicate 32 (Value.int .u8 0)) (n * 32)) 61)) := by
    intro w
    have := run_make (P := Try.prog) w 54 61 i0 _ Try.underlying54 hi hz0 .i64 .i64 n n (by omega) (by omega) (by rw [hz2]; omega) (by omega)
    rw [hz1] at this
    simpa [Value.cells] using this
  have hC := Lib.hid (made_at n)
  generalize madeCells (Array.replicate 32 (Value.int .u8 0)) (n * 32) = C at *
  clear hi hz0 hz1 hz2
  have hmm := fun (t : TypeId) (w : World) => run_makeMap (P := Try.prog) t w
  have g1 : (1 : Int) ≤ (n : Int) := by omega
  have g2 : (n : Int) ≤ 512 := by omega
  go_enter Try.func11, Try.ntmps11
  go_wp2
  go_ret2
  refine ⟨_, rfl, ⟨_, _, _, diskIn_new w n h1 h2 C hC.out, ?_, ?_, ?_, ?_, ?_⟩, ?_⟩
  · simp; omega
  · simp; omega
  · simp
  · intro k hk; cases hk
  · intro k hk; exact hk.2
  · exact (((Below.refl _ _).alloc (Nat.le_refl _) _).alloc (by simp) _).alloc (by simp; omega) _
set_option maxHeartbeats 400000 in
theorem new_no (n : Int) (w : World) (h : n < 1 ∨ 512 < n) : Calls Try.prog 11 #[.int .i64 n] w fun e w' => e = .returned (.tuple #[.pointer none, .int .i64 11]) ∧ w = w' := by
  rcases h with h | h
  · have h1 : decide (n < 1) = true := by simpa using h
    go_enter Try.func11, Try.ntmps11
    go_wp2
    go_ret2
    exact ⟨rfl, rfl⟩
  · have h1 : decide (n < 1) = false := by simp; omega
    have h2 : decide (512 < n) = true := by simpa using h
    go_enter Try.func11, Try.ntmps11
    go_wp2
    go_ret2
    exact ⟨rfl, rfl⟩
end Go.Proofs.Ytckkgcogkcljeaa

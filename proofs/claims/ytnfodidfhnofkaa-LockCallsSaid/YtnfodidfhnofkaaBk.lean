/- A row of locks: leave (slices.DeleteFunc of numbers). -/
import Derived.Test.YtnfodidfhnofkaaBj
import Derived.Test.YtnfodidfhnofkaaShelf
namespace Go.Proofs.Ytnfodidfhnofkaa
open Go.RowKit Go.Deep Go.Maps Go.Sort Go.Lib

theorem putRow_heap {α : Type} [Inhabited α] (enc : α → Value) {w : World} {b off : Nat} {d : Array α} {cur : Array Value} {t : TypeId} {fr : Nat × Nat} (h : w.heap[b]? = some (.cells cur t fr)) : (putRow enc w b off d).heap[b]? = some (.cells (putCells enc off d cur) t fr) := by
  simp [putRow, mapBlock, Array.getElem?_modify, h, onCells]
theorem putRow_other {α : Type} [Inhabited α] (enc : α → Value) {w : World} {b off k : Nat} {d : Array α} (h : k ≠ b) : (putRow enc w b off d).heap[k]? = w.heap[k]? := by
  simp [putRow, mapBlock, Array.getElem?_modify, Ne.symm h]
theorem moves_putRow {α : Type} [Inhabited α] (enc : α → Value) (w : World) (q b off : Nat) (d : Array α) : Moves (· = b) w (putRow enc (Sort.ahead w q) b off d) :=
  ⟨rfl, rfl, rfl, by simp [putRow, mapBlock, Sort.ahead], fun k _ hk => by rw [putRow_other enc hk]; rfl⟩
theorem putCells_at {α : Type} [Inhabited α] (enc : α → Value) {off j : Nat} {d : Array α} {cur : Array Value} (hc : off + j < cur.size) (hj : j < d.size) : (putCells enc off d cur)[off + j]? = some (enc d[j]!) := by
  unfold putCells
  rw [Array.getElem?_mapIdx, Array.getElem?_eq_getElem hc]
  simp [hj]
theorem putCells_size {α : Type} [Inhabited α] (enc : α → Value) (off : Nat) (d : Array α) (cur : Array Value) : (putCells enc off d cur).size = cur.size := by simp [putCells]
set_option maxRecDepth 100000 in
theorem clo_leave (tb : Nat) (tx x : Int) (W : World) (c0 : W.cell? ⟨tb, 0, none⟩ = some (.int .i64 tx)) :
    Calls Try.prog 68 #[.int .i64 x, .pointer (some ⟨tb, 0, none⟩)] W fun e w' => e = .returned (.bool (x == tx)) ∧ ∃ q, w' = W.drewN q := by
  obtain ⟨q, hq⟩ : ∃ q, (x == tx) = q := ⟨_, rfl⟩
  rw [hq]
  go_enter Try.func68, Try.ntmps68
  go_wp2
  go_ret
  exact ⟨by simp, 0, rfl⟩
theorem entersLeave : ∀ args w, (callFunc 68 args).run Try.prog w = .ok (.enter 68 args) w := Go.Proofs.enters_of Try.func68 (by kernel_rfl) rfl
/-- What a call leaves that turns those who wait. -/
def NewW (w : World) (rb : Nat) (hv wv : Value) (ws' : List Int) (e : Ending) (w' : World) : Prop :=
  e = .returned (.tuple #[]) ∧ ∃ wv', BoxR w' rb hv wv' ∧ WaitAt w' wv' ws' ∧ (∀ k, wv'.ownBlock = some k → wv.ownBlock = some k ∨ (w.heap.size ≤ k ∧ k < w'.heap.size)) ∧ Moves (fun k => k = rb ∨ wv.ownBlock = some k) w w'
theorem delete_ints (wv : Value) (ws : List Int) (tb : Nat) (tx : Int) (w : World) (h : WaitAt w wv ws) (ht : w.cell? ⟨tb, 0, none⟩ = some (.int .i64 tx)) (hne : wv.ownBlock ≠ some tb) :
    Calls Try.prog 67 #[wv, .func (.func 68) #[] #[.pointer (some ⟨tb, 0, none⟩)]] w fun e w' => ∃ wv', e = .returned wv' ∧ WaitAt w' wv' (leaveW ws tx) ∧ wv'.ownBlock = wv.ownBlock ∧ Moves (fun k => wv.ownBlock = some k) w w' := by
  have htl := World.block_lt_of_cell? w _ ht
  rcases h with ⟨rfl, rfl⟩ | ⟨g, off, cap, cur, rfl, hh, h1, h2, h3, h4, h5⟩
  · clear ht hne
    go_enter Try.func67, Try.ntmps67
    go_wp2_with fail
    refine (Try.slices_IndexFunc_empty (α := Int) none 0 _ w).mono ?_
    rintro e w1 ⟨rfl, rfl⟩
    go_wp2_with fail
    go_ret
    exact ⟨_, rfl, .inl ⟨rfl, rfl⟩, rfl, Moves.refl _ _⟩
  · have hgt : tb ≠ g := fun e => hne (by rw [e]; rfl)
    have hcap : ws.length ≤ cap := h1
    have hbig : ws.length ≤ 9223372036854775807 := by unfold maxLen at h2; omega
    have hH : Holds (Value.int .i64) w g off ws.toArray := fun j hj => by
      have hj' : j < ws.length := by simpa using hj
      refine ⟨?_, by simp [World.frozen?, hh]⟩
      rw [cell_of_row w g (off + j) cur _ _ hh, h5 j ws[j] (List.getElem?_eq_getElem hj')]
      simp [hj']
    have hat : ∀ (W : World) (x : Int), W.cell? ⟨tb, 0, none⟩ = some (.int .i64 tx) → FnGives Try.prog 68 #[.pointer (some ⟨tb, 0, none⟩)] #[Value.int .i64 x] (.bool (x == tx)) W := fun W x hc => clo_leave tb tx x W hc
    have hcall := Try.slices_DeleteFunc (Value.int .i64) (fun _ => rfl) (fun x => x == tx) 68 #[.pointer (some ⟨tb, 0, none⟩)] entersLeave 0 Try.zeroValue3 g off cap ws.toArray w
      (fun W x hb => hat W x ((hb.cell (p := ⟨tb, 0, none⟩) htl).trans ht))
      (fun n os dk x hs => hat _ x (by
        unfold sortWorld
        rw [cell?_grow _ _ _ (by simpa [Sort.ahead] using htl), cell?_putRow_other _ _ _ _ _ _ (.inl hgt)]
        exact ht)) hH (by simpa using hbig) (by simpa using hcap)
    have hlen : ws.toArray.size = ws.length := by simp
    rw [hlen] at hcall
    refine hcall.mono ?_
    rintro e w1 ⟨rfl, q, rfl⟩
    have hf : (ws.filter fun x => !(x == tx)) = leaveW ws tx := by
      unfold leaveW
      congr 1
    simp only [hf]
    refine ⟨_, rfl, .inr ⟨g, off, cap, _, rfl, putRow_heap _ hh, ?_, h2, by rw [putCells_size]; exact h3, by rw [putCells_size]; exact h4, fun j v hj => ?_⟩, rfl, (moves_putRow _ w q g off _).mono fun k hk => by rw [hk]; rfl⟩
    · exact Nat.le_trans (List.length_filter_le _ _) h1
    · have hjl : j < (leaveW ws tx).length := (List.getElem?_eq_some_iff.1 hj).1
      have hle : (leaveW ws tx).length ≤ ws.length := List.length_filter_le _ _
      rw [putCells_at _ (by omega) (by simp; omega)]
      simp [List.getElem?_append_left hjl, hjl]
      exact Option.some.inj ((List.getElem?_eq_getElem hjl).symm.trans hj)
set_option maxRecDepth 100000 in
set_option maxHeartbeats 1000000 in
theorem leave_any (rb : Nat) (hv wv : Value) (ws : List Int) (tx : Int) (w : World) (hB : BoxR w rb hv wv) (h : WaitAt w wv ws) (hne : wv.ownBlock ≠ some rb) :
    Calls Try.prog 46 #[.pointer (some ⟨rb, 0, none⟩), .int .i64 tx] w (NewW w rb hv wv (leaveW ws tx)) := by
  have H := Lib.hid h
  have HB := Lib.hid hB
  have HN := Lib.hid hne
  have c0 := hB.c1
  have hlt := hB.lt
  clear h hB hne
  go_enter Try.func46, Try.ntmps46
  go_wp2_with fail
  have b0 : Below w.heap.size w (w.alloc (Obj.cells #[Value.int IntKind.i64 tx] 3)) := (Below.refl _ w).alloc (Nat.le_refl _) _
  have hnb : wv.ownBlock ≠ some w.heap.size := fun e => by have := H.out.lt _ e; omega
  refine (delete_ints wv ws w.heap.size tx _ (H.out.below b0) (by simp) hnb).mono ?_
  rintro e w1 ⟨wv', rfl, h1, h2, m1⟩
  obtain ⟨A', c', rfl⟩ := h1.isSlice
  have HB1 := Lib.hid (show BoxR w1 rb hv wv from (HB.out.below b0).kept (m1.block rb (HB.out.below b0).lt HN.out))
  have f0 := HB1.out.f0 1
  have c0' := HB1.out.c1
  have hlt1 := HB1.out.lt
  have M1 := Lib.hid m1
  have H1 := Lib.hid h1
  have H2 := Lib.hid h2
  clear b0 m1 h1 h2 c0
  go_wp2_with fail
  go_end0
  refine ⟨rfl, _, HB1.out.set1 _, H1.out.kept fun k hk => Below.heap_setCell _ _ _ k (fun e => ?_), fun k hk => .inl (H2.out ▸ hk), ?_⟩
  · have hk2 : wv.ownBlock = some k := H2.out ▸ hk
    exact HN.out (by rw [hk2]; exact congrArg some e)
  · have m0 : Moves (fun k => k = rb ∨ wv.ownBlock = some k) w _ := moves_of_below ((Below.refl _ w).alloc (Nat.le_refl _) (Obj.cells #[Value.int IntKind.i64 tx] 3))
    exact (m0.trans (M1.out.mono fun k hk => .inr hk) fun _ h => .inl h).trans (moves_setCell (fun k => k = rb ∨ wv.ownBlock = some k) w1 ⟨rb, 1, none⟩ _ (.inl rfl)) fun _ h => .inl h
end Go.Proofs.Ytnfodidfhnofkaa

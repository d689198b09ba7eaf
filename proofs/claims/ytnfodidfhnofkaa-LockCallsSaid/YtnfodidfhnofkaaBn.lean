/- lock: New, Holds, Waits, wanted, refusal. -/
import Derived.Test.YtnfodidfhnofkaaBm
import Derived.StillTailTactics
import Derived.Laws.ResultCell
namespace Go.Proofs.Ytnfodidfhnofkaa
open Go.RowKit Go.Deep Go.Maps

set_option maxRecDepth 100000 in
theorem zeroRow (w : World) : (zeroValue 64).run Try.prog w = .ok rowZ w := by kernel_rfl
def wishZ : Value := .agg #[.int .u8 0, .int .u8 0, .int .u8 0, .int .u8 0, .int .i64 0, .int .i64 0]
set_option maxRecDepth 100000 in
theorem zeroWish (w : World) : (zeroValue 68).run Try.prog w = .ok wishZ w := by kernel_rfl
section
variable {w w' : World} {F G : Nat → Prop} {tb rb wb : Nat} {g : KeyT → Value} {m : Nat} {P : KeyT → Prop} {st : PS}
theorem TabIn.look (h : TabIn w F tb rb wb g m P st) (k : KeyT) (hb : w'.heap[rb]? = w.heap[rb]?) : (Instr.lookup 55 (.map (some rb)) (KV k) false).run Try.prog w' = .ok (rowG st g k) w' :=
  (h.map1.block hb).look kindKey Try.underlying55 (zeroRow w') (x := k) trivial
theorem TabIn.wish (h : TabIn w F tb rb wb g m P st) {t : Int} (ht : okI t) (hb : w'.heap[wb]? = w.heap[wb]?) : (Instr.lookup 56 (.map (some wb)) (.int .i64 t) true).run Try.prog w' = .ok (.tuple #[(wishF st t).getD wishZ, .bool (wishF st t).isSome]) w' :=
  (h.map2.block hb).look_ok kindInt Try.underlying56 (zeroWish w') ht
theorem TabIn.wish1 (h : TabIn w F tb rb wb g m P st) {t : Int} (ht : okI t) (hb : w'.heap[wb]? = w.heap[wb]?) : (Instr.lookup 56 (.map (some wb)) (.int .i64 t) false).run Try.prog w' = .ok ((wishF st t).getD wishZ) w' :=
  (h.map2.block hb).look kindInt Try.underlying56 (zeroWish w') ht
theorem TabIn.rbl (h : TabIn w F tb rb wb g m P st) : rb < w.heap.size := h.lt rb h.f2
theorem TabIn.wbl (h : TabIn w F tb rb wb g m P st) : wb < w.heap.size := h.lt wb h.f3
theorem TabIn.tbl (h : TabIn w F tb rb wb g m P st) : tb < w.heap.size := h.lt tb h.f1
/-- The row that a look-up gives, in two parts. -/
theorem RowAt.parts {v : Value} {r : PRow} (h : RowAt w v r) : ∃ A n c A' n' c', v = .agg #[.slice A n c, .slice A' n' c'] ∧ n = r.hs.length ∧ n' = r.ws.length := by
  obtain ⟨hv, wv, rfl, h1, h2, _⟩ := h
  obtain ⟨A, c, rfl⟩ := h1.isSlice
  obtain ⟨A', c', rfl⟩ := h2.isSlice
  exact ⟨A, _, c, A', _, c', rfl, rfl, rfl⟩
theorem RowAt.hold {hv wv : Value} {r : PRow} (h : RowAt w (.agg #[hv, wv]) r) : HoldAt w hv r.hs := by
  obtain ⟨hv', wv', e, h1, h2, _⟩ := h
  simp only [Value.agg.injEq, Array.mk.injEq, List.cons.injEq, and_true] at e
  obtain ⟨rfl, rfl⟩ := e
  exact h1
theorem RowAt.wait {hv wv : Value} {r : PRow} (h : RowAt w (.agg #[hv, wv]) r) : WaitAt w wv r.ws := by
  obtain ⟨hv', wv', e, h1, h2, _⟩ := h
  simp only [Value.agg.injEq, Array.mk.injEq, List.cons.injEq, and_true] at e
  obtain ⟨rfl, rfl⟩ := e
  exact h2
end
set_option maxRecDepth 100000 in
theorem wanted_any (ex : Bool) (w : World) : Calls Try.prog 34 #[.bool ex] w fun e w' => e = .returned (.int .i64 (wantN ex)) ∧ w = w' := by
  cases ex <;>
  · go_enter Try.func34, Try.ntmps34
    go_wp2
    go_ret
    exact ⟨rfl, rfl⟩
set_option maxRecDepth 100000 in
set_option maxHeartbeats 1000000 in
theorem refusal_any (p : PWish) (k : KeyT) (w : World) : Calls Try.prog 36 #[wishV p, KV k] w fun e w' => e = .returned (.int .i64 (if p.key = k then 17 else 13)) ∧ Below w.heap.size w w' := by
  have heq := fun W => run_eqlKey p.key k W
  obtain ⟨b, hb⟩ : ∃ b, decide (p.key = k) = b := ⟨_, rfl⟩
  have hr : (if p.key = k then (17 : Int) else 13) = if b then 17 else 13 := by
    rw [← hb]; by_cases h : p.key = k <;> simp [h]
  rw [hr]
  simp only [hb] at heq
  clear hr hb
  unfold wishV KV kv at *
  simp only [List.cons_append, List.nil_append] at *
  generalize ((p.key.a.val : Nat) : Int) = a0 at *
  generalize ((p.key.b.val : Nat) : Int) = a1 at *
  generalize ((p.key.c.val : Nat) : Int) = a2 at *
  generalize ((p.key.d.val : Nat) : Int) = a3 at *
  generalize ((k.a.val : Nat) : Int) = b0 at *
  generalize ((k.b.val : Nat) : Int) = b1 at *
  generalize ((k.c.val : Nat) : Int) = b2 at *
  generalize ((k.d.val : Nat) : Int) = b3 at *
  cases b <;>
  · go_enter Try.func36, Try.ntmps36
    go_wp2
    go_ret
    exact ⟨rfl, ((Below.refl _ _).alloc (Nat.le_refl _) _).alloc (by simp) _⟩
/-- A key in a box of its own. -/
theorem box_key (w : World) (x0 x1 x2 x3 : Value) : ∀ i v, [x0, x1, x2, x3][i]? = some v → (w.alloc (.cells #[x0, x1, x2, x3] 24)).cell? ⟨w.heap.size, i, none⟩ = some v := fun i v h => by
  rw [World.cell?_alloc_new]
  simpa using h
set_option maxRecDepth 100000 in
set_option maxHeartbeats 1000000 in
theorem holds_any (F : Nat → Prop) (tb m : Nat) (st : PS) (tx r : Int) (k : KeyT) (w : World) (h : LockAt w F tb m st) (hr : howH (st.row k).hs tx = r) :
    Calls Try.prog 21 #[.pointer (some ⟨tb, 0, none⟩), .int .i64 tx, KV k] w fun e w' => e = .returned (.int .i64 r) ∧ Below w.heap.size w w' := by
  obtain ⟨_, rb, wb, g, h⟩ := h
  have rl := h.rbl
  have HR := Lib.hid (h.row (k := k) trivial).1
  have HT := Lib.hid h
  obtain ⟨A, n, c, A', n', c', e1, e2, e3⟩ := HR.out.parts
  clear e2 e3
  have hl : ∀ W : World, W.heap[rb]? = w.heap[rb]? → (Instr.lookup 55 (.map (some rb)) (KV k) false).run Try.prog W = .ok (rowG st g k) W := fun W hW => h.look k hW
  have HL := Lib.hid hl
  rw [e1] at HL HR
  clear hl h e1
  have hbk := Lib.hid (box_key w (.int .u8 (k.a.val : Int)) (.int .u8 (k.b.val : Int)) (.int .u8 (k.c.val : Int)) (.int .u8 (k.d.val : Int)))
  unfold KV kv at *
  generalize ((k.a.val : Nat) : Int) = b0 at *
  generalize ((k.b.val : Nat) : Int) = b1 at *
  generalize ((k.c.val : Nat) : Int) = b2 at *
  generalize ((k.d.val : Nat) : Int) = b3 at *
  go_enter Try.func21, Try.ntmps21
  go_wp2_with fail
  have hW : Below w.heap.size w (w.alloc (.cells #[.int .u8 b0, .int .u8 b1, .int .u8 b2, .int .u8 b3] 24)) := (Below.refl _ _).alloc (Nat.le_refl _) _
  generalize (w.alloc (.cells #[.int .u8 b0, .int .u8 b1, .int .u8 b2, .int .u8 b3] 24)) = W at *
  have HW := Lib.hid hW
  have c1 := (HT.out.below hW).c1
  have k0 := hbk.out 0 _ rfl
  have k1 := hbk.out 1 _ rfl
  have k2 := hbk.out 2 _ rfl
  have k3 := hbk.out 3 _ rfl
  have hl1 := HL.out W.drew (hW.block rb rl)
  have hH := HR.out.hold
  have hH2 : HoldAt W.drew _ _ := (hH.below hW).kept fun _ _ => rfl
  have HH := Lib.hid hH2
  clear hW hH hH2
  go_still_tail 7, (by kernel_rfl)
  change wpList _ _ _ _ _ W.drew
  go_wp2_with fail
  refine (how_any _ _ _ tx r _ HH.out hr).mono ?_
  rintro e w2 ⟨rfl, hb⟩
  have HB := Lib.hid hb
  clear hb
  go_wp2_with fail
  go_ret
  have hd : Below W.heap.size W W.drew := below_drewN (Below.refl _ W) 1
  exact ⟨rfl, (HW.out.trans (hd.mono HW.out.size)).trans (HB.out.mono HW.out.size)⟩
def keyW (st : PS) (t : Int) : KeyT := match st.wish t with | some p => p.key | none => ⟨0, 0, 0, 0⟩
def wantW (st : PS) (t : Int) : Int := match st.wish t with | some p => p.want | none => 0
def sinceW (st : PS) (t : Int) : Int := match st.wish t with | some p => p.since | none => 0
theorem wish_parts (st : PS) (t : Int) : (wishF st t).getD wishZ = .agg (kv (keyW st t) ++ [Value.int .i64 (wantW st t), Value.int .i64 (sinceW st t)]).toArray ∧ (wishF st t).isSome = (st.wish t).isSome := by
  unfold wishF keyW wantW sinceW
  cases st.wish t <;> exact ⟨rfl, rfl⟩
set_option maxRecDepth 100000 in
set_option maxHeartbeats 1000000 in
theorem waits_any (F : Nat → Prop) (tb m : Nat) (st : PS) (tx : Int) (w : World) (h : LockAt w F tb m st) (ht : okI tx) :
    Calls Try.prog 19 #[.pointer (some ⟨tb, 0, none⟩), .int .i64 tx] w fun e w' => e = .returned (.tuple #[KV (keyW st tx), .bool (st.wish tx).isSome]) ∧ Below w.heap.size w w' := by
  obtain ⟨_, rb, wb, g, h⟩ := h
  have wl := h.wbl
  have tl := h.tbl
  have c2 := h.c2
  have hl := fun o : Obj => h.wish (w' := w.alloc o) ht (Below.heap_alloc w o wb wl)
  simp only [(wish_parts st tx).1, (wish_parts st tx).2] at hl
  generalize (st.wish tx).isSome = b at *
  generalize wantW st tx = z4 at *
  generalize sinceW st tx = z5 at *
  clear h ht
  unfold KV kv at *
  simp only [List.cons_append, List.nil_append] at hl
  generalize (((keyW st tx).a.val : Nat) : Int) = b0 at *
  generalize (((keyW st tx).b.val : Nat) : Int) = b1 at *
  generalize (((keyW st tx).c.val : Nat) : Int) = b2 at *
  generalize (((keyW st tx).d.val : Nat) : Int) = b3 at *
  go_enter Try.func19, Try.ntmps19
  go_wp2_with fail
  refine bodyPost_ret (v := .tuple #[.agg #[.int .u8 b0, .int .u8 b1, .int .u8 b2, .int .u8 b3], .bool b]) ?_ rfl ⟨rfl, ((Below.refl _ _).alloc (Nat.le_refl _) _).alloc (by simp) _⟩
  rw [results_cell_tmp rfl]
  go_simp
theorem tabIn_new (w : World) (wait : Int) (h1 : 1 ≤ wait) (h2 : wait ≤ 1000) : TabIn (((w.alloc (.map #[] 0)).alloc (.map #[] 0)).alloc (.cells #[.int .i64 wait, .map (some w.heap.size), .map (some (w.heap.size + 1))] 58)) (fun k => w.heap.size ≤ k ∧ k < w.heap.size + 3) (w.heap.size + 1 + 1) w.heap.size (w.heap.size + 1) (fun _ => rowZ) 0 (fun _ => True) (newPS wait) := by
  have e1 : (w.alloc (.map #[] 0)).heap.size = w.heap.size + 1 := by simp
  have e2 : ((w.alloc (.map #[] 0)).alloc (.map #[] 0)).heap.size = w.heap.size + 1 + 1 := by simp
  have m1 := MapAt.made w Try.prog 24 (fun _ : KeyT => True) kLit
  have m2 := MapAt.made (w.alloc (.map #[] 0)) Try.prog 3 okI iLit
  rw [e1] at m2
  refine { blk := by rw [← e2]; exact heap_alloc_new _ _, w1 := h1, w2 := h2, map1 := ?_, map2 := ?_, rows := fun k r _ hr => by simp [newPS] at hr, sep := fun k k' r r' _ _ _ hr => by simp [newPS] at hr, ne1 := by omega, ne2 := by omega, ne3 := by omega, f1 := ⟨by omega, by omega⟩, f2 := ⟨by omega, by omega⟩, f3 := ⟨by omega, by omega⟩, lt := fun b hb => by simp; omega }
  · exact (m1.block (Below.heap_alloc _ _ _ (by simp))).block (Below.heap_alloc _ _ _ (by simp; omega))
  · exact m2.block (Below.heap_alloc _ _ _ (by simp))
def NewSays (wait : Int) (w : World) (e : Ending) (w' : World) : Prop := ∃ tb, e = .returned (.tuple #[.pointer (some ⟨tb, 0, none⟩), .int .i64 0]) ∧ LockAt w' (fun k => w.heap.size ≤ k ∧ k < w'.heap.size) tb 0 (newPS wait) ∧ Below w.heap.size w w'
set_option maxRecDepth 100000 in
set_option maxHeartbeats 1000000 in
theorem new_ok (wait : Int) (w : World) (h1 : 1 ≤ wait) (h2 : wait ≤ 1000) : Calls Try.prog 11 #[.int .i64 wait] w (NewSays wait w) := by
  have hmm := fun (t : TypeId) (w : World) => run_makeMap (P := Try.prog) t w
  go_enter Try.func11, Try.ntmps11
  go_wp2
  go_ret2
  refine ⟨_, rfl, ⟨Inv.new wait, _, _, _, (tabIn_new w wait h1 h2).more (fun b hb => ⟨hb.1, by simp; omega⟩) (fun b hb => hb.2)⟩, (((Below.refl _ _).alloc (Nat.le_refl _) _).alloc (by simp) _).alloc (by simp; omega) _⟩
set_option maxRecDepth 100000 in
set_option maxHeartbeats 400000 in
theorem new_no (wait : Int) (w : World) (h : wait < 1 ∨ 1000 < wait) : Calls Try.prog 11 #[.int .i64 wait] w fun e w' => e = .returned (.tuple #[.pointer none, .int .i64 11]) ∧ w = w' := by
  rcases h with h | h
  · have h1 : decide (wait < 1) = true := by simpa using h
    go_enter Try.func11, Try.ntmps11
    go_wp2
    go_ret2
    exact ⟨rfl, rfl⟩
  · have h1 : decide (wait < 1) = false := by simp; omega
    have h2 : decide (1000 < wait) = true := by simpa using h
    go_enter Try.func11, Try.ntmps11
    go_wp2
    go_ret2
    exact ⟨rfl, rfl⟩
end Go.Proofs.Ytnfodidfhnofkaa

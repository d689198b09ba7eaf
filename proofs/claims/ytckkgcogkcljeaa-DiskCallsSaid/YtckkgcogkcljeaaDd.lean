/- disk: Read, Image. -/
import Derived.Test.YtckkgcogkcljeaaDl
namespace Go.Proofs.Ytckkgcogkcljeaa
open Go.RowKit Go.Deep Go.Maps

/-- A call that answers a sector's bytes in new memory. -/
def ReadSays (zs : List Int) (w : World) (e : Ending) (w' : World) : Prop := ∃ b, e = .returned (.tuple #[.slice (some ⟨b, 0, none⟩) 32 32, .int .i64 0]) ∧ w'.rangeAt b 0 (secC zs) ∧ w.heap.size ≤ b ∧ b < w'.heap.size ∧ Below w.heap.size w w'
set_option maxRecDepth 100000 in
set_option maxHeartbeats 1000000 in
theorem read_ok (db lb mb : Nat) (cv : Value) (n i : Nat) (st : St) (zs : List Int) (hz : nowAt st i = zs) (w : World) (h : DiskIn w db lb mb cv n st) (hi : i < n) :
    Calls Try.prog 21 #[.pointer (some ⟨db, 0, none⟩), .int .i64 i] w (ReadSays zs w) := by
  have c0 := h.c0
  have c2 := h.c2
  have hg : goodAt n i = true := by unfold goodAt; simp; omega
  have hn2 := h.n2
  have hown := h.map
  cases hl : lastIn i st.cache with
  | some ys =>
    have hy := h.wf.has _ (lastIn_mem i _ _ hl)
    have hzs : ys = zs := by
      rw [← hz]; unfold nowAt nows; rw [carry_at _ _ _ (by rw [h.wf.len]; exact hi), hl]; rfl
    subst hzs
    have HL := Lib.hid hl
    have HG := Lib.hid hg
    have HZ := Lib.hid hz
    clear hl hg hz
    go_enter Try.func21, Try.ntmps21
    go_wp2_with fail
    refine (there_any db lb n i _ c0).mono ?_
    rintro e w' ⟨rfl, rfl⟩
    rw [HG.out]
    have hy' : (secC ys).length = 32 := by rw [secC_len]; exact hy
    have HY := Lib.hid hy'
    clear hy hy'
    go_wp2_with (first | (at_lookup; refine wpList_lookup_sec rfl _ _ rfl mb _ i _ rfl hown rfl (by omega) ?_; rw [HL.out]; intro zs1 hzs1; obtain rfl := hzs1) | (refine wpList_allocT rfl 61 rfl _ 32 (by simp) info_sec2 ?_; intro W1 e1 b1 t1; have T1 := Lib.hid t1; have E1 := Lib.hid e1; clear t1 e1) | (refine wpList_storeT rfl 61 _ _ rfl _ _ (secC zs1) rfl rfl (by rw [HY.out]; exact T1.out) (by rw [HY.out]; exact size_sec) (secC_one _) ?_; intro W2 e2))
    go_ret2
    have hs := size_store e2
    have hs1 := E1.out
    refine ⟨w.heap.size, rfl, range_store e2 (by rw [HY.out]; exact T1.out), Nat.le_refl _, by omega, b1.trans (below_store e2 (by omega) (Nat.le_refl _))⟩
  | none =>
    have hsec := h.secs i (by rw [h.wf.len]; exact hi)
    have hzs : secAt st.safe i = zs := by
      rw [← hz]; unfold nowAt nows; rw [carry_at _ _ _ (by rw [h.wf.len]; exact hi), hl]; rfl
    have hy' : (secC zs).length = 32 := by rw [secC_len, ← hz]; exact h.wf.now_len hi
    rw [hzs] at hsec
    have HY := Lib.hid hy'
    have HL := Lib.hid hl
    have HG := Lib.hid hg
    have hR := Lib.hid hsec.1
    have hlt : (i : Int) < (n : Int) := by omega
    have hlt1 := h.lt1
    have hlt0 := h.lt0
    clear hl hg hz hy' hzs hsec
    go_enter Try.func21, Try.ntmps21
    go_wp2_with fail
    refine (there_any db lb n i _ c0).mono ?_
    rintro e w' ⟨rfl, rfl⟩
    rw [HG.out]
    go_wp2_with (first | (at_lookup; refine wpList_lookup_none rfl _ _ rfl mb _ i _ rfl hown rfl (by omega) HL.out ?_; intro ys hys; have HZ := Lib.hid ((secC_len ys).trans hys.out)) | (refine wpList_allocT rfl 61 rfl _ 32 (by simp) info_sec2 ?_; intro W1 e1 b1 t1; have T1 := Lib.hid t1; have E1 := Lib.hid e1; clear t1 e1) | (refine wpList_storeT rfl 61 _ (.tmp 19) rfl _ _ (secC ys) rfl rfl (by rw [HZ.out]; exact T1.out) (by rw [HZ.out]; exact size_sec) (secC_one _) ?_; intro W2 e2; have b2 := Lib.hid (b1.trans (below_store e2 (by have := E1.out; omega) (Nat.le_refl _))); have c0b : W2.cell? ⟨db, 0, none⟩ = some (.slice (some ⟨lb, 0, none⟩) n n) := (b2.out.cell (p := ⟨db, 0, none⟩) hlt0).trans c0) | (refine wpList_load_mid rfl 61 (.tmp 28) rfl lb (i * 32) rfl (secC zs) _ (rangeAt_of_block' (b2.out.block _ hlt1) hR.out) Try.underlying61 rfl (by rw [HY.out]; exact size_sec) ?_) | (refine wpList_storeT rfl 61 _ (.tmp 29) rfl _ _ (secC zs) rfl rfl (by rw [HY.out]; exact there_store e2 T1.out) (by rw [HY.out]; exact size_sec) (secC_one _) ?_; intro W3 e3))
    go_ret2
    have hs := size_store e2
    have hs3 := size_store e3
    have hs1 := E1.out
    refine ⟨w.heap.size, rfl, range_store e3 (by rw [HY.out]; exact there_store e2 T1.out), Nat.le_refl _, by omega, b2.out.trans (below_store e3 (by omega) (Nat.le_refl _))⟩
set_option maxHeartbeats 400000 in
theorem read_no (db lb mb : Nat) (cv : Value) (n : Nat) (i : Int) (st : St) (w : World) (h : DiskIn w db lb mb cv n st) (hg : goodAt n i = false) :
    Calls Try.prog 21 #[.pointer (some ⟨db, 0, none⟩), .int .i64 i] w fun e w' => e = .returned (.tuple #[.slice none 0 0, .int .i64 11]) ∧ w = w' := by
  have c0 := h.c0
  have HG := Lib.hid hg
  clear hg
  go_enter Try.func21, Try.ntmps21
  go_wp2_with fail
  refine (there_any db lb n i _ c0).mono ?_
  rintro e w' ⟨rfl, rfl⟩
  rw [HG.out]
  go_wp2
  go_ret2
  exact ⟨rfl, rfl⟩

theorem good_of_range {b : Nat} {zs : List Int} {w : World} (h : w.rangeAt b 0 (secC zs)) (hb : b < w.heap.size) (n : Nat) (hn : zs.length ≤ n) : Good (some ⟨b, 0, none⟩) n zs w :=
  ⟨fun _ => ⟨b, 0, rfl, hb, fun j hj => h j _ (by simp [secC, hj])⟩, hn, fun e => by cases e⟩
set_option maxRecDepth 100000 in
set_option maxHeartbeats 1000000 in
theorem image_any (db lb mb : Nat) (cv : Value) (n : Nat) (st : St) (zs : List Int) (hz : st.safe.flatten = zs) (w : World) (h : DiskIn w db lb mb cv n st) (hn : n ≤ 300) :
    Calls Try.prog 25 #[.pointer (some ⟨db, 0, none⟩)] w (GivesB zs w) := by
  have c0 := h.c0
  have h1 := h.n1
  obtain ⟨i0, hi, hz0, hz1, hz2⟩ := info_parts info_u8
  have hmk : ∀ w : World, (Instr.makeSlice 32 (.int .i64 0) (.int .i64 ((n : Int) * 32))).run Try.prog w = .ok (.slice (some ⟨w.heap.size, 0, none⟩) 0 (n * 32)) (w.alloc (.cells (madeCells #[Value.int .u8 0] (n * 32)) 5)) := by
    intro w
    have := run_make (P := Try.prog) w 32 5 i0 _ Try.underlying32 hi hz0 .i64 .i64 0 ((n : Int) * 32) (by omega) (by omega) (by rw [hz2]; omega) (by omega)
    rw [hz1] at this
    have e : ((n : Int) * 32).toNat = n * 32 := by omega
    simpa [Value.cells, e] using this
  have hown0 : Owns w.heap.size (w.alloc (.cells (madeCells #[Value.int .u8 0] (n * 32)) 5)) (.slice (some ⟨w.heap.size, 0, none⟩) 0 (n * 32)) [] :=
    World.ownsRow_made w _ (n * 32) (Nat.le_refl _) (by simp only [maxLen]; omega) (by simp [madeCells])
  have HO := Lib.hid hown0
  have HZ := Lib.hid hz
  generalize madeCells #[Value.int .u8 0] (n * 32) = C at *
  have c0' : ∀ o : Obj, (w.alloc o).cell? ⟨db, 0, none⟩ = some (.slice (some ⟨lb, 0, none⟩) n n) := fun o => (World.cell?_alloc_lt w o _ h.lt0).trans c0
  clear hi hz0 hz1 hz2 hown0 hz
  go_enter Try.func25, Try.ntmps25
  go_wp2
  go_loopw [3, 18] (fun o k wr => ∃ j : Nat, j ≤ n ∧ k = .int .i64 j ∧ Owns w.heap.size wr o ((st.safe.take j).flatten) ∧ Below w.heap.size w wr) (fun _ k _ => n - (intOf k).toNat)
  case atStart => exact ⟨0, by omega, rfl, HO.out, (Below.refl _ _).alloc (Nat.le_refl _) _⟩
  case round =>
    obtain ⟨j, hj, rfl, ho, hb⟩ := hrel
    by_cases hlt : j < n
    · have hsec := h.secs j (by rw [h.wf.len]; exact hlt)
      have hy : (secAt st.safe j).length = 32 := secAt_len h.wf.len h.wf.secs hlt
      have hR := Lib.hid (rangeAt_of_block' (hb.block _ h.lt1) hsec.1)
      have hf := Lib.hid (flat_take st.safe j (by rw [h.wf.len]; exact hlt))
      have hll : ((st.safe.take j).flatten).length ≤ 9700 := by
        have := flat_len (st.safe.take j) (n := j) (by rw [List.length_take, h.wf.len]; omega) (fun z hz => h.wf.secs z (List.mem_of_mem_take hz))
        omega
      generalize secAt st.safe j = ys at *
      generalize (st.safe.take j).flatten = acc at *
      have hy' : (secC ys).length = 32 := by rw [secC_len]; exact hy
      have HY := Lib.hid hy'
      have HY0 := Lib.hid hy
      have hlt' : (j : Int) < (n : Int) := by omega
      have hsz := hb.size
      have HO1 := Lib.hid ho
      clear hsec hy hy' ho
      go_wp2_with (first | (refine wpList_load_mid rfl 61 (.tmp 20) rfl lb (j * 32) rfl (secC ys) _ hR.out Try.underlying61 rfl (by rw [HY.out]; exact size_sec) ?_) | (refine wpList_allocT rfl 61 rfl _ 32 (by simp) info_sec2 ?_; intro W1 e1 b1 t1; have T1 := Lib.hid t1; have E1 := Lib.hid e1; clear t1 e1) | (refine wpList_storeT rfl 61 _ (.tmp 21) rfl _ _ (secC ys) rfl rfl (by rw [HY.out]; exact T1.out) (by rw [HY.out]; exact size_sec) (secC_one _) ?_; intro W2 e2; have b2 := Lib.hid (b1.trans (below_store e2 (by have := E1.out; omega) (Nat.le_refl _))); have g2 := Lib.hid (range_store e2 (by rw [HY.out]; exact T1.out)); have z2 := size_store e2) | (at_builtin; refine wpList_appendB rfl _ _ rfl w.heap.size _ acc rfl (HO1.out.below b2.out) _ ys 32 32 rfl HY0.out (good_of_range g2.out (by have := E1.out; omega) 32 (Nat.le_of_eq HY0.out)) (by rw [HY0.out]; omega) (by have := b2.out.size; omega) w (hb.trans (b2.out.mono hsz)) ?_; intro v' W3 o3 b3))
      go_roundw
      case rel => exact ⟨j + 1, by omega, by go_num, by rw [hf.out]; exact o3, b3⟩
      case measure => simp [intOf]; omega
    · obtain rfl : j = n := by omega
      go_wp2
      go_ret
      refine ⟨_, rfl, ?_, hb⟩
      rw [← HZ.out]
      have e : st.safe.take j = st.safe := List.take_of_length_le (by rw [h.wf.len]; exact Nat.le_refl _)
      rw [e] at ho
      exact ho
end Go.Proofs.Ytckkgcogkcljeaa

/- lock: Free. -/
import Derived.Test.YtnfodidfhnofkaaBu
namespace Go.Proofs.Ytnfodidfhnofkaa
open Go.RowKit Go.Deep Go.Maps Go.Sort Go.Lib
set_option linter.unusedVariables false
set_option linter.unusedSimpArgs false
set_option linter.unusedSectionVars false
set_option linter.unnecessarySimpa false

/-- What a key needs that Free goes on with. -/
theorem free_need {st0 st : PS} {tx : Int} {R : KeyT → PRow} {k : KeyT} {todo : List KeyT} (h0 : Inv st0) (ht : touches st0 tx k = true) (h : InFree st0 st tx R (k :: todo)) : st.row k = st0.row k ∧ (st.rows k).isSome = true := by
  obtain ⟨a1, _⟩ := h.rest k List.mem_cons_self
  refine ⟨a1, ?_⟩
  cases hr : st.rows k with
  | some r => rfl
  | none =>
    rw [none_row hr] at a1
    unfold touches at ht
    rw [← a1] at ht
    simp [howH] at ht
theorem keys_block {w w' : World} {base : Nat} {v : Value} {l : List KeyT} (h : KeysAt w base v l) (hb : ∀ b, v.ownBlock = some b → w'.heap[b]? = w.heap[b]?) : KeysAt w' base v l := by
  refine ⟨h.1, ?_⟩
  rcases h.2 with h0 | ⟨g, cap, cur, rfl, h1, h2, h3⟩
  · exact .inl h0
  · exact .inr ⟨g, cap, cur, rfl, h1, (hb g rfl).trans h2, h3⟩
theorem keys_cell {w : World} {base g n cap : Nat} {l : List KeyT} (h : KeysAt w base (.slice (some ⟨g, 0, none⟩) n cap) l) {i : Nat} {k : KeyT} (hk : l[i]? = some k) : ∀ j v, (kv k)[j]? = some v → w.cell? ⟨g, i * 4 + j, none⟩ = some v := fun j v hj => by
  have hj4 : j < 4 := by have := (List.getElem?_eq_some_iff.1 hj).1; simpa [kv] using this
  have h1 := flatMap_get kv_len l i j k hk hj4
  rcases h.2 with ⟨e, _⟩ | ⟨g', cap', cur, e, _, h2, _, _, _, h6⟩
  · cases e
  · simp only [Value.slice.injEq, Option.some.injEq, Addr.mk.injEq, and_true, true_and] at e
    obtain ⟨rfl, _, rfl⟩ := e
    have hil : i < l.length := (List.getElem?_eq_some_iff.1 hk).1
    have hlt : i * 4 + j < l.length * 4 := by omega
    rw [← h6, List.getElem?_take_of_lt hlt, Array.getElem?_toList, hj] at h1
    simp [World.cell?, h2, h1]
theorem KeysAt.isSlice {w : World} {base : Nat} {v : Value} {l : List KeyT} (h : KeysAt w base v l) : ∃ a c, v = .slice a l.length c := by
  rcases h.2 with ⟨rfl, h0⟩ | ⟨g, cap, cur, rfl, _⟩
  · exact ⟨none, 0, by rw [h0]⟩
  · exact ⟨_, _, rfl⟩
theorem KeysAt.isSome {w : World} {base c : Nat} {a : Option Addr} {l : List KeyT} (h : KeysAt w base (.slice a l.length c) l) (hl : l ≠ []) : ∃ g, a = some ⟨g, 0, none⟩ ∧ base ≤ g ∧ g < w.heap.size ∧ l.length ≤ maxLen := by
  rcases h.2 with ⟨e, h0⟩ | ⟨g, cap, cur, e, h1, h2, h3, h4, _⟩
  · exact absurd (List.eq_nil_of_length_eq_zero h0) hl
  · simp only [Value.slice.injEq] at e
    exact ⟨g, e.1, h1, (Array.getElem?_eq_some_iff.1 h2).1, by omega⟩
set_option maxRecDepth 100000 in
set_option maxHeartbeats 4000000 in
theorem free_any (F : Nat → Prop) (tb m : Nat) (st : PS) (tx : Int) (w : World) (h : LockAt w F tb m st) (hm : m ≤ 1000) (ht : okI tx) :
    Calls Try.prog 15 #[.pointer (some ⟨tb, 0, none⟩), .int .i64 tx] w fun e w' => e = .returned (.tuple #[]) ∧ ∃ st', FreeSays st st' tx ∧ LockAt w' (grow F w w') tb m st' ∧ Moves F w w' := by
  have hI := h.1
  have hFl := h.lt
  have HC := Lib.hid (freeL_any F tb m st _ (h.alloc (.cells #[.int .i64 tx] 3)) (by omega) tx w.heap.size (by rw [World.cell?_alloc_new]; rfl))
  have HI := Lib.hid hI
  obtain ⟨_, rb, wb, g, h⟩ := h
  have wl := h.wbl
  have tl := h.tbl
  have rl := h.rbl
  have HT := Lib.hid h
  have HOK := Lib.hid ht
  clear h hI ht
  go_enter Try.func15, Try.ntmps15
  go_wp2_with fail
  have hA : Below w.heap.size w (w.alloc (.cells #[.int .i64 tx] 3)) := (Below.refl _ w).alloc (Nat.le_refl _) _
  have hAx : (w.alloc (.cells #[.int .i64 tx] 3)).cell? ⟨w.heap.size, 0, none⟩ = some (.int .i64 tx) := by rw [World.cell?_alloc_new]; rfl
  have hAs : (w.alloc (.cells #[.int .i64 tx] 3)).heap.size = w.heap.size + 1 := by simp
  generalize w.alloc (.cells #[.int .i64 tx] 3) = wa at *
  refine HC.out.mono ?_
  rintro e w1 ⟨v, l, rfl, hl1, hl2, hl3⟩
  obtain ⟨a, cp, rfl⟩ := hl1.isSlice
  have hs1 := hl3.size
  have HL2 := Lib.hid (show (∀ k, k ∈ l ↔ touches st tx k = true) from fun k => by
    rw [hl2.mem k]
    constructor
    · exact fun e => e.2
    · intro e
      refine ⟨?_, e⟩
      cases hr : st.rows k with
      | some r => rfl
      | none => unfold touches at e; rw [none_row hr] at e; simp [howH] at e)
  have HND := Lib.hid (show l.Nodup from hl2.up.imp fun h e => by subst e; exact Nat.lt_irrefl _ h)
  have hb1 : Below w.heap.size w w1 := hA.trans (hl3.mono hA.size)
  have c2 : w1.cell? ⟨tb, 2, none⟩ = some (.map (some wb)) := (HT.out.below hb1).c2
  have hx1 : w1.cell? ⟨w.heap.size, 0, none⟩ = some (.int .i64 tx) := (hl3.cell (p := ⟨w.heap.size, 0, none⟩) (show w.heap.size < wa.heap.size by omega)).trans hAx
  have MP2 := Lib.hid (show MapAt Try.prog 3 okI iLit w1.drew wb m (wishF st) from (HT.out.below hb1).map2)
  have HB1 := Lib.hid hb1
  have hlw : w.heap.size < w1.heap.size := by omega
  have tl1 : tb < w1.heap.size := by omega
  have HK1 := Lib.hid hl1
  clear hl1 hl2 hl3 hb1 hA hAx
  go_wp2_with fail
  go_still_tail 5, (by kernel_rfl)
  change wpList _ _ _ _ _ w1.drew
  go_wp2_with (first | (at_delete; refine wpList_del kindInt rfl _ _ 56 rfl 68 Try.underlying56 wb m _ rfl MP2.out tx rfl HOK.out ?_; intro w2 hmap hgr) | fail)
  have hg1 : w1.heap.size ≤ w2.heap.size := hgr.size
  have T2 := Lib.hid (show TabIn w2 F tb rb wb g m (fun _ => True) { st with wish := upd st.wish tx none } from ((HT.out.below HB1.out).moves (G := fun _ => False) (w' := w1.drew) (moves_of_below (below_drewN (Below.refl _ w1) 1)) (fun _ _ e => e)).wishes (Nat.le_refl m) hgr (by rw [← wishF_del]; exact hmap))
  have M2 := Lib.hid (((moves_of_below (F := F) HB1.out).trans (moves_of_below (F := F) (below_drewN (Below.refl _ w1) 1)) fun _ e => .inl e).trans (moves_of_grown (F := F) hgr fun b e => by injection e with e; rw [← e]; exact HT.out.f3) fun _ e => .inl e)
  have hx2 : w2.cell? ⟨w.heap.size, 0, none⟩ = some (.int .i64 tx) := (World.cell?_of_block (a := ⟨w.heap.size, 0, none⟩) (hgr.block w.heap.size hlw (fun e => by injection e with e; omega))).trans hx1
  have HX2 := Lib.hid hx2
  have HK2 := Lib.hid (keys_block (w' := w2) HK1.out (fun b hb => hgr.block b (by
    rcases HK1.out.2 with ⟨e, _⟩ | ⟨gb, cap, cur, e, _, h2, _⟩
    · rw [e] at hb; cases hb
    · rw [e] at hb; cases hb; exact (Array.getElem?_eq_some_iff.1 h2).1) (fun e => by
    injection e with e
    rcases HK1.out.2 with ⟨e', _⟩ | ⟨gb, cap, cur, e', h1, _⟩
    · rw [e'] at hb; cases hb
    · rw [e'] at hb; cases hb; have e : gb = wb := e; omega)))
  have HIF := Lib.hid (InFree.start (ks := l) HI.out HL2.out)
  clear hmap hgr hx1 hx2 c2 HC MP2
  obtain ⟨n, hn⟩ : ∃ n, l.length = n := ⟨_, rfl⟩
  have HN := Lib.hid hn
  rw [hn]
  clear hn
  go_wp2_with fail
  go_loopg [18] n (fun gg s18 wr => ∃ (kk : Nat) (sti : PS) (g' : KeyT → Value), kk ≤ n ∧ n - kk ≤ gg ∧ s18 = .int .i64 kk ∧ Hid (∃ R, InFree st sti tx R (l.drop kk)) ∧ Hid ((l.drop kk).foldl (freeK tx) sti = freeL st tx l) ∧ Hid (TabIn wr (grow F w2 wr) tb rb wb g' m (fun _ => True) sti) ∧ Hid (Moves F w2 wr))
  case atStart => exact ⟨0, _, g, Nat.zero_le _, by omega, rfl, Lib.hid ⟨_, HIF.out⟩, Lib.hid rfl, Lib.hid (T2.out.more (fun b hb => .inl hb) (fun b hb => hb.elim (T2.out.lt b) (·.2))), Lib.hid (moves_of_below (Below.refl _ w2))⟩
  case round =>
    obtain ⟨kk, sti, g', hkk, hgg, rfl, HF, HFO, TI, MI⟩ := hrel
    by_cases hlt : kk < n
    · have hltz : (kk : Int) < (n : Int) := by omega
      obtain ⟨k, hk⟩ : ∃ k, l[kk]? = some k := ⟨_, List.getElem?_eq_getElem (by have := HN.out; omega)⟩
      have hdr : l.drop kk = k :: l.drop (kk + 1) := by
        obtain ⟨hlt', e⟩ := List.getElem?_eq_some_iff.1 hk
        rw [List.drop_eq_getElem_cons hlt', e]
      rw [hdr] at HF HFO
      obtain ⟨R, hIF⟩ := HF.out
      have hnd : k ∉ l.drop (kk + 1) := by
        have h1 : (l.drop kk).Nodup := HND.out.sublist (List.drop_sublist _ _)
        rw [hdr] at h1
        exact (List.nodup_cons.1 h1).1
      have htc : touches st tx k = true := (HL2.out k).1 (List.mem_of_getElem? hk)
      have HIF := Lib.hid hIF
      have HSTEP := Lib.hid (hIF.step HI.out hnd)
      obtain ⟨hrowe, hsome⟩ := free_need HI.out htc hIF
      have HROWE := Lib.hid hrowe
      have HSOME := Lib.hid hsome
      have hK2 := HK2.out
      rw [HN.out] at hK2
      obtain ⟨gb, rfl, hgb1, hgb2, hmx⟩ := KeysAt.isSome (l := l) (by rw [HN.out]; exact hK2) (fun e => by rw [e] at hk; cases hk)
      have hgF : ¬ F gb := fun e => by have := HT.out.lt gb e; omega
      have hcell := keys_cell (keys_block hK2 (w' := wr) (fun b hb => by cases hb; exact MI.out.block gb hgb2 hgF)) hk
      have hxr : wr.cell? ⟨w.heap.size, 0, none⟩ = some (.int .i64 tx) := (World.cell?_of_block (a := ⟨w.heap.size, 0, none⟩) (MI.out.block w.heap.size (by omega) (fun e => by have := HT.out.lt _ e; omega))).trans HX2.out
      have hmr := MI.out.size
      generalize hk0 : ((k.a.val : Nat) : Int) = z0 at *
      generalize hk1 : ((k.b.val : Nat) : Int) = z1 at *
      generalize hk2 : ((k.c.val : Nat) : Int) = z2 at *
      generalize hk3 : ((k.d.val : Nat) : Int) = z3 at *
      have hKV : kv k = [.int .u8 z0, .int .u8 z1, .int .u8 z2, .int .u8 z3] := by rw [← hk0, ← hk1, ← hk2, ← hk3]; rfl
      have HK := Lib.hid (show KV k = .agg #[.int .u8 z0, .int .u8 z1, .int .u8 z2, .int .u8 z3] by rw [← hk0, ← hk1, ← hk2, ← hk3]; rfl)
      rw [hKV] at hcell
      have q0 : wr.cell? ⟨gb, kk * 4, none⟩ = some (.int .u8 z0) := hcell 0 _ rfl
      have q1 : wr.cell? ⟨gb, kk * 4 + 1, none⟩ = some (.int .u8 z1) := hcell 1 _ rfl
      have q2 : wr.cell? ⟨gb, kk * 4 + 2, none⟩ = some (.int .u8 z2) := hcell 2 _ rfl
      have q3 : wr.cell? ⟨gb, kk * 4 + 3, none⟩ = some (.int .u8 z3) := hcell 3 _ rfl
      have hnb : n ≤ 9223372036854775807 := by have := HN.out; unfold maxLen at hmx; omega
      clear hk0 hk1 hk2 hk3 hKV hcell hrowe hsome hIF htc hK2 hmx
      have HMR := Lib.hid hmr
      go_wp2_with fail
      have hA3 : Below wr.heap.size wr (wr.alloc (.cells #[.int .u8 z0, .int .u8 z1, .int .u8 z2, .int .u8 z3] 24)) := (Below.refl _ wr).alloc (Nat.le_refl _) _
      have hK3 : (wr.alloc (.cells #[.int .u8 z0, .int .u8 z1, .int .u8 z2, .int .u8 z3] 24)).heap[wr.heap.size]? = some (.cells #[.int .u8 z0, .int .u8 z1, .int .u8 z2, .int .u8 z3] 24 (0, 0)) := heap_alloc_new wr _
      have hs3 : (wr.alloc (.cells #[.int .u8 z0, .int .u8 z1, .int .u8 z2, .int .u8 z3] 24)).heap.size = wr.heap.size + 1 := by simp
      generalize (wr.alloc (.cells #[.int .u8 z0, .int .u8 z1, .int .u8 z2, .int .u8 z3] 24)) = w3 at *
      have T3 := Lib.hid (TI.out.below hA3)
      have KB := Lib.hid hK3
      have k0 : w3.cell? ⟨wr.heap.size, 0, none⟩ = some (.int .u8 z0) := by simp [World.cell?, hK3]
      have k1 : w3.cell? ⟨wr.heap.size, 1, none⟩ = some (.int .u8 z1) := by simp [World.cell?, hK3]
      have k2 : w3.cell? ⟨wr.heap.size, 2, none⟩ = some (.int .u8 z2) := by simp [World.cell?, hK3]
      have k3 : w3.cell? ⟨wr.heap.size, 3, none⟩ = some (.int .u8 z3) := by simp [World.cell?, hK3]
      have c1 := T3.out.c1
      have htl : tb < w3.heap.size := by omega
      have hrl : rb < w3.heap.size := by omega
      have hkl : wr.heap.size < w3.heap.size := by omega
      have hx3 : w3.cell? ⟨w.heap.size, 0, none⟩ = some (.int .i64 tx) := (hA3.cell (p := ⟨w.heap.size, 0, none⟩) (show w.heap.size < wr.heap.size by omega)).trans hxr
      have HA3 := Lib.hid hA3
      obtain ⟨hr1, hr2, hr3⟩ := T3.out.row (k := k) trivial
      obtain ⟨A, n0, c, A', n', c', e1, e2, e3⟩ := hr1.parts
      subst e2 e3
      rw [e1] at hr1 hr3
      have HR := Lib.hid (And.intro hr1 hr2)
      have hlk : ∀ W : World, W.heap[rb]? = w3.heap[rb]? → (Instr.lookup 55 (.map (some rb)) (.agg #[.int .u8 z0, .int .u8 z1, .int .u8 z2, .int .u8 z3]) false).run Try.prog W = .ok (.agg #[.slice A (sti.row k).hs.length c, .slice A' (sti.row k).ws.length c']) W := fun W hW => by rw [← HK.out, ← e1]; exact T3.out.look k hW
      have HE1 := Lib.hid e1
      have HOW := Lib.hid (show ∀ b, BlkOf (.agg #[.slice A (sti.row k).hs.length c, .slice A' (sti.row k).ws.length c']) b → b ≠ w.heap.size ∧ b < wr.heap.size from fun b hb => (hr3 b hb).1.elim (fun x => by have := HT.out.lt b x; omega) (fun x => by omega))
      have HS3 := Lib.hid hs3
      clear hA3 hK3 q0 q1 q2 q3 hr1 hr2 hr3 e1 hxr hs3
      have hS : ∀ W' : World, Below w3.heap.size w3 W' → (fun W' => W'.cell? ⟨tb, 1, none⟩ = some (.map (some rb)) ∧ W'.cell? ⟨wr.heap.size, 0, none⟩ = some (.int .u8 z0) ∧ W'.cell? ⟨wr.heap.size, 1, none⟩ = some (.int .u8 z1) ∧ W'.cell? ⟨wr.heap.size, 2, none⟩ = some (.int .u8 z2) ∧ W'.cell? ⟨wr.heap.size, 3, none⟩ = some (.int .u8 z3) ∧ (Instr.lookup 55 (.map (some rb)) (.agg #[.int .u8 z0, .int .u8 z1, .int .u8 z2, .int .u8 z3]) false).run Try.prog W' = .ok (.agg #[.slice A (sti.row k).hs.length c, .slice A' (sti.row k).ws.length c']) W') W' := fun W' hb =>
        ⟨(hb.cell (p := ⟨tb, 1, none⟩) htl).trans c1, (hb.cell (p := ⟨wr.heap.size, 0, none⟩) hkl).trans k0, (hb.cell (p := ⟨wr.heap.size, 1, none⟩) hkl).trans k1, (hb.cell (p := ⟨wr.heap.size, 2, none⟩) hkl).trans k2, (hb.cell (p := ⟨wr.heap.size, 3, none⟩) hkl).trans k3, hlk W' (hb.block rb hrl)⟩
      have HSS := Lib.hid hS
      have bd : Below w3.heap.size w3 w3.drew := below_drewN (Below.refl _ w3) 1
      have BD := Lib.hid bd
      clear hS bd
      refine wp_region_noPanic ?_
      refine wp_region_held_drew (S := (fun W' => W'.cell? ⟨tb, 1, none⟩ = some (.map (some rb)) ∧ W'.cell? ⟨wr.heap.size, 0, none⟩ = some (.int .u8 z0) ∧ W'.cell? ⟨wr.heap.size, 1, none⟩ = some (.int .u8 z1) ∧ W'.cell? ⟨wr.heap.size, 2, none⟩ = some (.int .u8 z2) ∧ W'.cell? ⟨wr.heap.size, 3, none⟩ = some (.int .u8 z3) ∧ (Instr.lookup 55 (.map (some rb)) (.agg #[.int .u8 z0, .int .u8 z1, .int .u8 z2, .int .u8 z3]) false).run Try.prog W' = .ok (.agg #[.slice A (sti.row k).hs.length c, .slice A' (sti.row k).ws.length c']) W')) (by kernel_rfl) (HSS.out _ BD.out) (fun hHeld => ?_)
      refine wpAnyH_take (i := 0) (oi := ⟨some 22, _, _, _, _, _⟩) (v := .pointer (some ⟨tb, 0, none⟩)) rfl (by kernel_rfl) (by kernel_rfl) (by kernel_rfl) (fun _ _ _ h => h) (Or.inl ⟨by rfl, by intro w hSw; obtain ⟨s1, s2, s3, s4, s5, s6⟩ := hSw; go_simp; (try with_reducible rfl)⟩) (by assumption) ?_
      simp only [Act.put, List.setIfInBounds_toArray, List.set_cons_zero, List.set_cons_succ]
      refine wpAnyH_take (i := 1) (oi := ⟨some 23, _, _, _, _, _⟩) (v := .pointer (some ⟨tb, 0, none⟩)) rfl (by kernel_rfl) (by kernel_rfl) (by kernel_rfl) (fun _ _ _ h => h) (Or.inl ⟨by rfl, by intro w hSw; obtain ⟨s1, s2, s3, s4, s5, s6⟩ := hSw; go_simp; (try with_reducible rfl)⟩) (by assumption) ?_
      simp only [Act.put, List.setIfInBounds_toArray, List.set_cons_zero, List.set_cons_succ]
      refine wpAnyH_take (i := 2) (oi := ⟨some 24, _, _, _, _, _⟩) (v := .pointer (some ⟨tb, 1, none⟩)) rfl (by kernel_rfl) (by kernel_rfl) (by kernel_rfl) (fun _ _ _ h => h) (Or.inl ⟨by rfl, by intro w hSw; obtain ⟨s1, s2, s3, s4, s5, s6⟩ := hSw; go_simp; (try with_reducible rfl)⟩) (by assumption) ?_
      simp only [Act.put, List.setIfInBounds_toArray, List.set_cons_zero, List.set_cons_succ]
      refine wpAnyH_take (i := 3) (oi := ⟨some 25, _, _, _, _, _⟩) (v := .map (some rb)) rfl (by kernel_rfl) (by kernel_rfl) (by kernel_rfl) (fun _ _ _ h => h) (Or.inl ⟨by rfl, by intro w hSw; obtain ⟨s1, s2, s3, s4, s5, s6⟩ := hSw; go_simp; (try with_reducible rfl)⟩) (by assumption) ?_
      simp only [Act.put, List.setIfInBounds_toArray, List.set_cons_zero, List.set_cons_succ]
      refine wpAnyH_take (i := 4) (oi := ⟨some 26, _, _, _, _, _⟩) (v := .agg #[.int .u8 z0, .int .u8 z1, .int .u8 z2, .int .u8 z3]) rfl (by kernel_rfl) (by kernel_rfl) (by kernel_rfl) (fun _ _ _ h => h) (Or.inl ⟨by rfl, by intro w hSw; obtain ⟨s1, s2, s3, s4, s5, s6⟩ := hSw; go_simp; (try with_reducible rfl)⟩) (by assumption) ?_
      simp only [Act.put, List.setIfInBounds_toArray, List.set_cons_zero, List.set_cons_succ]
      refine wpAnyH_take (i := 5) (oi := ⟨some 27, _, _, _, _, _⟩) (v := .agg #[.slice A (sti.row k).hs.length c, .slice A' (sti.row k).ws.length c']) rfl (by kernel_rfl) (by kernel_rfl) (by kernel_rfl) (fun _ _ _ h => h) (Or.inl ⟨by rfl, by intro w hSw; obtain ⟨s1, s2, s3, s4, s5, s6⟩ := hSw; go_simp; (try with_reducible rfl)⟩) (by assumption) ?_
      simp only [Act.put, List.setIfInBounds_toArray, List.set_cons_zero, List.set_cons_succ]
      refine wpAnyH_ready (rs := [6]) (by kernel_rfl) (by simp) ?_
      refine AllReadyH.cons (o := ⟨some 7, _, _, _, _, _⟩) rfl (fun K hK => ?_) AllReadyH.nil
      go_simp
      clear hHeld
      refine hK.out _ _ ?_ (fun hHeld => ?_)
      · exact HSS.out _ (BD.out.alloc (Nat.le_refl _) _)
      clear hK K
      try simp only [Act.put, List.setIfInBounds_toArray, List.set_cons_zero, List.set_cons_succ]
      refine wpAnyH_ready (rs := [7]) (by kernel_rfl) (by simp) ?_
      refine AllReadyH.cons (o := ⟨none, _, _, _, _, _⟩) rfl (fun K hK => ?_) AllReadyH.nil
      go_simp
      clear hHeld
      refine hK.out _ _ ?_ (fun hHeld => ?_)
      · exact HSS.out _ (BD.out.alloc (Nat.le_refl _) _)
      clear hK K
      try simp only [Act.put, List.setIfInBounds_toArray, List.set_cons_zero, List.set_cons_succ]
      refine wpAnyH_done (by kernel_rfl) ?_ _
      refine NoPanic.normal ?_
      clear hHeld
      have hx4 : (w3.alloc (.cells #[.slice A (sti.row k).hs.length c, .slice A' (sti.row k).ws.length c'] 64)).drew.cell? ⟨w.heap.size, 0, none⟩ = some (.int .i64 tx) := (World.cell?_alloc_lt w3 _ ⟨w.heap.size, 0, none⟩ (by show w.heap.size < w3.heap.size; omega)).trans hx3
      have hB4 : BoxR (w3.alloc (.cells #[.slice A (sti.row k).hs.length c, .slice A' (sti.row k).ws.length c'] 64)).drew w3.heap.size (.slice A (sti.row k).hs.length c) (.slice A' (sti.row k).ws.length c') := BoxR.new w3 (.slice A (sti.row k).hs.length c) (.slice A' (sti.row k).ws.length c')
      have b34 : Below w3.heap.size w3 (w3.alloc (.cells #[.slice A (sti.row k).hs.length c, .slice A' (sti.row k).ws.length c'] 64)).drew := below_drewN ((Below.refl _ w3).alloc (Nat.le_refl _) _) 1
      have hs4 : (w3.alloc (.cells #[.slice A (sti.row k).hs.length c, .slice A' (sti.row k).ws.length c'] 64)).drew.heap.size = w3.heap.size + 1 := World.size_alloc _ _
      generalize (w3.alloc (.cells #[.slice A (sti.row k).hs.length c, .slice A' (sti.row k).ws.length c'] 64)).drew = w4 at *
      have hx4l : w.heap.size < w4.heap.size := by omega
      clear k0 k1 k2 k3 c1 hx3 HSS BD
      go_wp2_with fail
      have HOV := Lib.hid (show (∀ b, (Value.slice A (sti.row k).hs.length c).ownBlock = some b → b ≠ w.heap.size ∧ b < wr.heap.size) ∧ (∀ b, (Value.slice A' (sti.row k).ws.length c').ownBlock = some b → b ≠ w.heap.size ∧ b < wr.heap.size) from ⟨fun b hb => HOW.out b ⟨_, _, rfl, .inl hb⟩, fun b hb => HOW.out b ⟨_, _, rfl, .inr hb⟩⟩)
      have HAP := Lib.hid (show ∀ b, (Value.slice A (sti.row k).hs.length c).ownBlock = some b → (Value.slice A' (sti.row k).ws.length c').ownBlock ≠ some b from HR.out.1.apart)
      have hneh : (Value.slice A (sti.row k).hs.length c).ownBlock ≠ some w3.heap.size := fun e => by have := (HOV.out.1 _ e).2; omega
      have hnew : (Value.slice A' (sti.row k).ws.length c').ownBlock ≠ some w3.heap.size := fun e => by have := (HOV.out.2 _ e).2; omega
      have HNW := Lib.hid hnew
      have HH4 := Lib.hid (HR.out.1.hold.below b34)
      have HW4 := Lib.hid (HR.out.1.wait.below b34)
      have HK4 := Lib.hid ((b34.block wr.heap.size hkl).trans KB.out)
      have H34 := Lib.hid b34
      have HS4 := Lib.hid hs4
      have hs34 : w3.heap.size < w4.heap.size := by omega
      clear hnew b34 hs4
      refine (release_any w3.heap.size (.slice A (sti.row k).hs.length c) (.slice A' (sti.row k).ws.length c') (sti.row k).hs tx w4 hB4 HH4.out hneh).mono ?_
      rintro e w5 ⟨rfl, hv', g1, g2, g3, g4⟩
      obtain ⟨A5, n5, c5, rfl⟩ : ∃ A5 n5 c5, hv' = .slice A5 n5 c5 := by obtain ⟨x, y, z⟩ := g2.isSlice; exact ⟨x, _, y, z⟩
      have hs5 := g4.size
      have HX5 := (World.cell?_of_block (a := ⟨w.heap.size, 0, none⟩) (g4.block w.heap.size hx4l (fun e => e.elim (fun e => by omega) (fun e => (HOV.out.1 _ e).1 rfl)))).trans hx4
      have HK5 := Lib.hid ((g4.block wr.heap.size (by omega) (fun e => e.elim (fun e => by omega) (fun e => by have := (HOV.out.1 _ e).2; omega))).trans HK4.out)
      have HW5 := Lib.hid (HW4.out.kept fun b hb => g4.block b (HW4.out.lt b hb) (fun e => e.elim (fun e => by have := (HOV.out.2 _ hb).2; omega) (fun e => HAP.out b e hb)))
      have G1 := Lib.hid g1
      have G2 := Lib.hid g2
      have G3 := Lib.hid g3
      have G4 := Lib.hid g4
      have hx5l : w.heap.size < w5.heap.size := by omega
      clear g1 g2 g3 g4 hx4 hB4 hneh
      go_wp2_with fail
      refine (leave_any w3.heap.size (.slice A5 n5 c5) (.slice A' (sti.row k).ws.length c') (sti.row k).ws tx w5 G1.out HW5.out HNW.out).mono ?_
      rintro e w6 ⟨rfl, wv', p1, p2, p3, p4⟩
      obtain ⟨A6, n6, c6, rfl⟩ : ∃ A6 n6 c6, wv' = .slice A6 n6 c6 := by obtain ⟨x, y, z⟩ := p2.isSlice; exact ⟨x, _, y, z⟩
      have hs6 := p4.size
      have HK6 := (p4.block wr.heap.size (by omega) (fun e => e.elim (fun e => by omega) (fun e => by have := (HOV.out.2 _ e).2; omega))).trans HK5.out
      have hh6 : HoldAt w6 (.slice A5 n5 c5) (releaseH (sti.row k).hs tx) := G2.out.kept fun b hb => p4.block b (G2.out.lt b hb) (fun e => (G3.out b hb).elim (fun y => e.elim (fun e => by have := (HOV.out.1 _ y).2; omega) (fun e => HAP.out b y e)) (fun y => e.elim (fun e => by omega) (fun e => by have := (HOV.out.2 _ e).2; omega)))
      have hrow6 : RowAt w6 (.agg #[.slice A5 n5 c5, .slice A6 n6 c6]) ⟨releaseH (sti.row k).hs tx, leaveW (sti.row k).ws tx⟩ := ⟨_, _, rfl, hh6, p2, fun b hb hb2 => (p3 b hb2).elim (fun y => (G3.out b hb).elim (fun z => HAP.out b z y) (fun z => by have := (HOV.out.2 _ y).2; omega)) (fun y => by have := G2.out.lt b hb; omega)⟩
      have hin6 : ∀ b, BlkOf (.agg #[.slice A5 n5 c5, .slice A6 n6 c6]) b → BlkOf (rowG sti g' k) b ∨ w3.heap.size ≤ b := fun b hb => (blk_agg hb).elim (fun e => (G3.out b e).elim (fun e => .inl (HE1.out ▸ ⟨_, _, rfl, .inl e⟩)) (fun e => .inr (by omega))) (fun e => (p3 b e).elim (fun e => .inl (HE1.out ▸ ⟨_, _, rfl, .inr e⟩)) (fun e => .inr (by omega)))
      have hM6 : Moves (fun b => b = w3.heap.size ∨ BlkOf (rowG sti g' k) b ∨ w4.heap.size ≤ b) w3 w6 := ((moves_of_below H34.out).trans G4.out (fun b hb => hb.elim (fun e => .inl (.inl e)) (fun e => .inl (.inr (.inl (HE1.out ▸ ⟨_, _, rfl, .inl e⟩)))))).trans p4 (fun b hb => hb.elim (fun e => .inl (.inl e)) (fun e => .inl (.inr (.inl (HE1.out ▸ ⟨_, _, rfl, .inr e⟩)))))
      have hlen6 : (releaseH (sti.row k).hs tx).length + (leaveW (sti.row k).ws tx).length ≤ m := Nat.le_trans (Nat.add_le_add (List.length_filter_le _ _) (List.length_filter_le _ _)) HR.out.2
      have hc := goOn_from T3.out hM6 (fun b hb => hb.elim (fun e => .inr (by omega)) (fun e => e.imp id fun e => by omega)) hrow6 hin6 HSOME.out hlen6 hm (by rw [HROWE.out]; exact (HI.out.ok k).wnd.filter _) (fun t ht => by rw [HROWE.out] at ht; exact RowOK.okI (HI.out.ok k) t (List.mem_filter.1 ht).1)
      rw [HK.out] at hc
      have k0 : w6.cell? ⟨wr.heap.size, 0, none⟩ = some (.int .u8 z0) := by simp [World.cell?, HK6]
      have k1 : w6.cell? ⟨wr.heap.size, 1, none⟩ = some (.int .u8 z1) := by simp [World.cell?, HK6]
      have k2 : w6.cell? ⟨wr.heap.size, 2, none⟩ = some (.int .u8 z2) := by simp [World.cell?, HK6]
      have k3 : w6.cell? ⟨wr.heap.size, 3, none⟩ = some (.int .u8 z3) := by simp [World.cell?, HK6]
      have d0 := p1.c0
      have d1 := p1.c1
      have HC := Lib.hid hc
      have h3l : w3.heap.size < w6.heap.size := by omega
      have hkl6 : wr.heap.size < w6.heap.size := by omega
      clear p1 p2 p3 p4 hh6 hrow6 hin6 hM6 hlen6 hc HK6 HX5
      go_wp2_with fail
      refine HC.out.mono ?_
      rintro e w7 ⟨rfl, ⟨g7, h7⟩, m7⟩
      have hs7 := m7.size
      have hs3' := HS3.out
      have H7 := Lib.hid (show TabIn w7 (grow F w2 w7) tb rb wb g7 m (fun _ => True) (freeK tx sti k) from h7.more (fun b hb => hb.elim (fun e => e.imp id fun e => ⟨e.1, by omega⟩) (fun e => .inr ⟨by omega, e.2⟩)) (fun b hb => hb.elim (fun e => by have := HT.out.lt b e; omega) (·.2)))
      have M7 := Lib.hid ((MI.out.trans (moves_of_below (F := F) HA3.out) fun _ e => .inl e).trans m7 fun b hb => hb.imp id fun e => e.1)
      clear h7 m7 k0 k1 k2 k3 d0 d1
      go_wp2_with fail
      go_roundg (n - (kk + 1))
      case measure => omega
      case rel => exact ⟨kk + 1, freeK tx sti k, g7, by omega, by omega, by go_num, Lib.hid ⟨_, HSTEP.out⟩, HFO, H7, M7⟩
    · obtain rfl : kk = n := by omega
      go_wp2_with fail
      go_end0
      have hd : l.drop kk = [] := List.drop_eq_nil_of_le (Nat.le_of_eq HN.out)
      have hfin := HFO.out
      rw [hd] at hfin
      have hfin : sti = freeL st tx l := hfin
      subst hfin
      have hsay := free_says HI.out tx HND.out HL2.out
      have h12 := MI.out.size
      have h02 := M2.out.size
      exact ⟨rfl, _, hsay, ⟨hsay.inv, rb, wb, g', TI.out.more (fun b hb => hb.imp id fun e => ⟨by omega, e.2⟩) (fun b hb => hb.elim (fun e => Nat.lt_of_lt_of_le (HT.out.lt b e) (by omega)) (·.2))⟩, M2.out.trans MI.out fun _ e => .inl e⟩
end Go.Proofs.Ytnfodidfhnofkaa

/- disk: carryOutTorn. -/
import Derived.Test.YtckkgcogkcljeaaDe
import Derived.Laws.CopyOwn
namespace Go.Proofs.Ytckkgcogkcljeaa
open Go.RowKit Go.Deep Go.Maps
attribute [local go_sem ↓] Go.wp_at_zero Go.wp_at_succ

theorem step_copyT {P : Program} {ops : Array Oper} {o : Oper} {a : Act} {w : World} {K : Act → World → Prop} {Q : Exit → Act → World → Prop} {E : Prop} (hgd : o.guard = none) (d s : Operand) (dT sT : TypeId)
    (ho : o.op = .call { callee := .builtin .copy, args := #[d, s], argTypes := #[dT, sT] }) (elem : TypeId) (hu : P.underlying dT = some (.slice elem)) (hsz : (P.info? elem).map (·.size) = some 1)
    (b f dLen dCap sb sf sLen sCap : Nat) (hd : a.eval d = .slice (some ⟨b, f, none⟩) dLen dCap) (hs : a.eval s = .slice (some ⟨sb, sf, none⟩) sLen sCap) (cs : List Value) (hn : cs.length = Nat.min sLen dLen)
    (hsrc : w.rangeAt sb sf cs) (ht : w.there b f cs.length) (h1 : ∀ v ∈ cs, v.oneCell' = true)
    (h : ∀ w2, Hid (w2 = w.setCells b f cs) → K (a.put o.dst (goInt cs.length)) w2) :
    if Region.wanted o (yielded ops a.tmps) = true then Oper.wp P o a w K Q else E := by
  have hw : Region.wanted o (yielded ops a.tmps) = true := by simp [Region.wanted, hgd]
  rw [if_pos hw]
  have hrun := run_copy_cells (P := P) w dT sT o.type elem b f dLen dCap ⟨sb, sf, none⟩ sLen sCap cs hu hsz hn (fun j v hv => by rw [Addr.add_mid]; exact hsrc j v hv) (fun j hj => (ht j hj).1) (fun j hj => (ht j hj).2) h1
  unfold Oper.wp
  simp [execOp, ho, resolve, invoke, builtin, hd, hs, hrun, Result.andThen]
  exact h _ (Lib.hid rfl)

theorem secC_append (a b : List Int) : secC (a ++ b) = secC a ++ secC b := by simp [secC]
/-- A sector is written, but for its end. -/
theorem Secs.torn {W W2 : World} {lb n : Nat} {s : List (List Int)} {i t : Nat} {zs : List Int} (h : Secs W lb s) (hl : s.length = n) (hs : ∀ z ∈ s, z.length = 32) (hz : zs.length = 32) (ht : t ≤ 31) (e : Hid (W2 = W.setCells lb (i * 32) (secC (zs.take t)))) : Secs W2 lb (tornS s (i, zs) t) := by
  intro k hk
  unfold tornS at hk ⊢
  rw [List.length_set] at hk
  rw [secAt_set _ _ _ _ hk]
  have hzt : (secC (zs.take t)).length = t := by rw [secC_len, List.length_take]; omega
  by_cases he : i = k
  · subst he
    rw [if_pos rfl]
    refine ⟨?_, there_store e (h i hk).2⟩
    have hr := range_store e (by rw [hzt]; exact fun j hj => (h i hk).2 j (by omega))
    intro j v hv
    show W2.cell? ⟨lb, i * 32 + j, none⟩ = some v
    rw [secC_append] at hv
    rcases Nat.lt_or_ge j t with hj | hj
    · rw [List.getElem?_append_left (by rw [hzt]; exact hj)] at hv
      exact hr j v hv
    · rw [List.getElem?_append_right (by rw [hzt]; exact hj), hzt] at hv
      have e2 : (secC ((secAt s i).drop t))[j - t]? = (secC (secAt s i))[j]? := by
        simp only [secC, List.getElem?_map, List.getElem?_drop]
        rw [Nat.add_sub_cancel' hj]
      rw [e2] at hv
      rw [e.out, World.cell?_setCells_out lb _ _ W _ (fun _ _ => .inr (by rw [hzt]; show i * 32 + t ≤ i * 32 + j; omega))]
      exact (h i hk).1 j v hv
  · rw [if_neg he]
    have h1 := secAt_len hl hs (by omega : k < n)
    exact ⟨range_store_apart e (h k hk).1 (.inr (by rw [secC_len, h1, hzt]; omega)), there_store e (h k hk).2⟩
theorem DiskIn.torn {W W2 : World} {db lb mb : Nat} {cv : Value} {n : Nat} {st : St} {i t : Nat} {zs : List Int} (h : DiskIn W db lb mb cv n st) (hi : i < n) (hz : zs.length = 32) (ht : t ≤ 31) (e : Hid (W2 = W.setCells lb (i * 32) (secC (zs.take t)))) : DiskIn W2 db lb mb cv n { st with safe := tornS st.safe (i, zs) t } := by
  have hm := moves_store e
  have hb : ∀ k, k < W.heap.size → k ≠ lb → W2.heap[k]? = W.heap[k]? := fun k hk hn => hm.block k hk hn
  have h0 := hb db h.lt0 h.ne1
  obtain ⟨t1, t2⟩ := torn_len (p := (i, zs)) (t := t) h.wf.len h.wf.secs hi hz ht
  exact { c0 := (World.cell?_of_block (a := ⟨db, 0, none⟩) h0).trans h.c0, c1 := (World.cell?_of_block (a := ⟨db, 1, none⟩) h0).trans h.c1, c2 := (World.cell?_of_block (a := ⟨db, 2, none⟩) h0).trans h.c2, fz := (World.frozen?_of_block (a := ⟨db, 1, none⟩) h0).trans h.fz
          secs := h.secs.torn h.wf.len h.wf.secs hz ht e, row := row_kept h.row (fun k hk => hb k (h.row.lt k hk).2 (fun x => h.ne5 (x ▸ hk))), map := map_kept h.map (hb mb h.map.lt (Ne.symm h.ne3))
          wf := ⟨t1, t2, h.wf.at_, h.wf.has⟩
          n1 := h.n1, n2 := h.n2, lt0 := by rw [size_store e]; exact h.lt0, lt1 := by rw [size_store e]; exact h.lt1, ne1 := h.ne1, ne2 := h.ne2, ne3 := h.ne3, ne4 := h.ne4, ne5 := h.ne5, ne6 := h.ne6 }

def TornSays (db lb mb : Nat) (cv : Value) (n : Nat) (st : St) (w : World) (e : Ending) (w' : World) : Prop := e = .returned (.tuple #[]) ∧ DiskIn w' db lb mb cv n st ∧ Moves (· = lb) w w'
theorem size_u8 : (Try.prog.info? 5).map (·.size) = some 1 := by kernel_rfl
theorem take_range {W : World} {b i : Nat} {pz : List Int} (h : W.rangeAt b 0 (wrC (i, pz))) (m : Nat) : W.rangeAt b 1 (secC (pz.take m)) := fun q v hv => by
  have hq : q < m := by
    rcases Nat.lt_or_ge q m with h | h
    · exact h
    · rw [List.getElem?_eq_none (by rw [secC_len, List.length_take]; omega)] at hv; cases hv
  have := h (q + 1) v (by
    rw [← hv]
    simp only [wrC, secC, List.getElem?_cons_succ, List.getElem?_map, List.getElem?_take_of_lt hq])
  rwa [show 0 + (q + 1) = 1 + q by omega] at this
set_option maxRecDepth 100000 in
set_option maxHeartbeats 1000000 in
theorem torn_mid (db lb mb : Nat) (cv : Value) (n : Nat) (st : St) (pi : Nat) (pz : List Int) (tt' : Nat) (tear : Int) (w : World) (h : DiskIn w db lb mb cv n st) (hp1 : pi < n) (hp2 : pz.length = 32) (hear : tear = tt') (ht2 : tt' ≤ 31) :
    Calls Try.prog 32 #[.pointer (some ⟨db, 0, none⟩), .agg (wrC (pi, pz)).toArray, .int .i64 tear] w (TornSays db lb mb cv n { st with safe := tornS st.safe (pi, pz) tt' } w) := by
  subst hear
  have hb0 := heap_alloc_new w (.cells (wrC (pi, pz)).toArray 63)
  have hbl : Below w.heap.size w (w.alloc (.cells (wrC (pi, pz)).toArray 63)) := (Below.refl _ _).alloc (Nat.le_refl _) _
  have hd2 := h.below hbl
  have hr2 : (w.alloc (.cells (wrC (pi, pz)).toArray 63)).rangeAt w.heap.size 0 (wrC (pi, pz)) := fun j v hv => by
    rw [cell_of_row _ _ _ _ _ _ hb0, Nat.zero_add]; simpa using hv
  have hlt := h.lt1
  go_enter Try.func32, Try.ntmps32
  go_wp2
  generalize (w.alloc (.cells (wrC (pi, pz)).toArray 63)) = W2 at *
  have k0 : W2.cell? ⟨db, 0, none⟩ = some (.slice (some ⟨lb, 0, none⟩) n n) := hd2.c0
  have k1 : W2.cell? ⟨w.heap.size, 0, none⟩ = some (.int .i64 pi) := hr2 0 _ rfl
  have k2 : W2.rangeAt w.heap.size 1 (secC (pz.take tt')) := take_range hr2 tt'
  have k3 : W2.there lb (pi * 32) tt' := fun j hj => (hd2.secs pi (by rw [hd2.wf.len]; exact hp1)).2 j (by omega)
  have hcs : (secC (pz.take tt')).length = tt' := by rw [secC_len, List.length_take]; omega
  have hone := secC_one (pz.take tt')
  have hset := Lib.hid (fun W3 (e : Hid (W3 = W2.drew.setCells lb (pi * 32) (secC (pz.take tt')))) => (hd2.below (below_drewN (Below.refl _ _) 1)).torn hp1 hp2 ht2 e)
  have hmv := Lib.hid (fun W3 (e : Hid (W3 = W2.drew.setCells lb (pi * 32) (secC (pz.take tt')))) => ((moves_of_below (F := (· = lb)) hbl).trans (moves_drewN (· = lb) W2 1) (fun _ x => .inl x)).trans (moves_store e) (fun _ x => .inl x))
  have hpi0 : (0 : Int) ≤ (pi : Int) := by omega
  have hpi1 : (pi : Int) < (n : Int) := by omega
  have ht0 : (0 : Int) ≤ (tt' : Int) := by omega
  have ht3 : (tt' : Int) ≤ 31 := by omega
  have ht4 : (tt' : Int) ≤ 32 := by omega
  have hne0 : db ≠ lb := h.ne1
  have hne1 : w.heap.size ≠ lb := by omega
  generalize w.heap.size = nb at *
  clear hr2 hd2 h hb0 hbl
  have hcs' := Lib.hid hcs
  generalize secC (pz.take tt') = cs at *
  clear hcs
  go_region_held3 (fun w' => w'.cell? ⟨db, 0, none⟩ = some (.slice (some ⟨lb, 0, none⟩) n n) ∧ w'.cell? ⟨nb, 0, none⟩ = some (.int .i64 (pi : Int)) ∧ w'.rangeAt nb 1 cs ∧ w'.there lb (pi * 32) tt')
    (first | assumption | go_keep_ranges | (go_split_ands; rw [e3.out]; refine ⟨(cell_apart hne0).trans (by assumption), (cell_apart hne1).trans (by assumption), World.rangeAt_setCells_apart (by assumption) _ _ _ (.inl hne1), World.there_setCells (by assumption) _ _ _⟩))
    ((refine step_copyT (by rfl) _ _ _ _ (by rfl) 5 Try.underlying32 size_u8 lb (pi * 32) 32 32 nb 1 tt' 32 (by rfl) (by rfl) cs (by rw [hcs'.out]; exact (Nat.min_eq_left (by omega)).symm) k2 (by rw [hcs'.out]; exact k3) hone ?_; intro W3 e3))
  have hh := hset.out _ e3
  have hmm := hmv.out _ e3
  clear hset hmv
  go_end0
  exact ⟨rfl, hh, hmm⟩
set_option maxRecDepth 100000 in
set_option maxHeartbeats 1000000 in
theorem torn_low (db lb mb : Nat) (cv : Value) (n : Nat) (st : St) (pi : Nat) (pz : List Int)  (tear : Int) (w : World) (h : DiskIn w db lb mb cv n st) (hp1 : pi < n) (hp2 : pz.length = 32) (hear : tear < 0) (ht2 : 0 ≤ 31) :
    Calls Try.prog 32 #[.pointer (some ⟨db, 0, none⟩), .agg (wrC (pi, pz)).toArray, .int .i64 tear] w (TornSays db lb mb cv n { st with safe := tornS st.safe (pi, pz) 0 } w) := by
  skip
  have hb0 := heap_alloc_new w (.cells (wrC (pi, pz)).toArray 63)
  have hbl : Below w.heap.size w (w.alloc (.cells (wrC (pi, pz)).toArray 63)) := (Below.refl _ _).alloc (Nat.le_refl _) _
  have hd2 := h.below hbl
  have hr2 : (w.alloc (.cells (wrC (pi, pz)).toArray 63)).rangeAt w.heap.size 0 (wrC (pi, pz)) := fun j v hv => by
    rw [cell_of_row _ _ _ _ _ _ hb0, Nat.zero_add]; simpa using hv
  have hlt := h.lt1
  go_enter Try.func32, Try.ntmps32
  go_wp2
  generalize (w.alloc (.cells (wrC (pi, pz)).toArray 63)) = W2 at *
  have k0 : W2.cell? ⟨db, 0, none⟩ = some (.slice (some ⟨lb, 0, none⟩) n n) := hd2.c0
  have k1 : W2.cell? ⟨w.heap.size, 0, none⟩ = some (.int .i64 pi) := hr2 0 _ rfl
  have k2 : W2.rangeAt w.heap.size 1 (secC (pz.take 0)) := take_range hr2 0
  have k3 : W2.there lb (pi * 32) 0 := fun j hj => (hd2.secs pi (by rw [hd2.wf.len]; exact hp1)).2 j (by omega)
  have hcs : (secC (pz.take 0)).length = 0 := by rw [secC_len, List.length_take]; omega
  have hone := secC_one (pz.take 0)
  have hset := Lib.hid (fun W3 (e : Hid (W3 = W2.drew.setCells lb (pi * 32) (secC (pz.take 0)))) => (hd2.below (below_drewN (Below.refl _ _) 1)).torn hp1 hp2 ht2 e)
  have hmv := Lib.hid (fun W3 (e : Hid (W3 = W2.drew.setCells lb (pi * 32) (secC (pz.take 0)))) => ((moves_of_below (F := (· = lb)) hbl).trans (moves_drewN (· = lb) W2 1) (fun _ x => .inl x)).trans (moves_store e) (fun _ x => .inl x))
  have hpi0 : (0 : Int) ≤ (pi : Int) := by omega
  have hpi1 : (pi : Int) < (n : Int) := by omega
  have ht0 : (0 : Int) ≤ (0 : Int) := by omega
  have ht3 : (0 : Int) ≤ 31 := by omega
  have ht4 : (0 : Int) ≤ 32 := by omega
  have hne0 : db ≠ lb := h.ne1
  have hne1 : w.heap.size ≠ lb := by omega
  generalize w.heap.size = nb at *
  clear hr2 hd2 h hb0 hbl
  have hcs' := Lib.hid hcs
  generalize secC (pz.take 0) = cs at *
  clear hcs
  go_region_held3 (fun w' => w'.cell? ⟨db, 0, none⟩ = some (.slice (some ⟨lb, 0, none⟩) n n) ∧ w'.cell? ⟨nb, 0, none⟩ = some (.int .i64 (pi : Int)) ∧ w'.rangeAt nb 1 cs ∧ w'.there lb (pi * 32) 0)
    (first | assumption | go_keep_ranges | (go_split_ands; rw [e3.out]; refine ⟨(cell_apart hne0).trans (by assumption), (cell_apart hne1).trans (by assumption), World.rangeAt_setCells_apart (by assumption) _ _ _ (.inl hne1), World.there_setCells (by assumption) _ _ _⟩))
    ((refine step_copyT (by rfl) _ _ _ _ (by rfl) 5 Try.underlying32 size_u8 lb (pi * 32) 32 32 nb 1 0 32 (by rfl) (by rfl) cs (by rw [hcs'.out]; exact (Nat.min_eq_left (by omega)).symm) k2 (by rw [hcs'.out]; exact k3) hone ?_; intro W3 e3))
  have hh := hset.out _ e3
  have hmm := hmv.out _ e3
  clear hset hmv
  go_end0
  exact ⟨rfl, hh, hmm⟩
set_option maxRecDepth 100000 in
set_option maxHeartbeats 1000000 in
theorem torn_high (db lb mb : Nat) (cv : Value) (n : Nat) (st : St) (pi : Nat) (pz : List Int)  (tear : Int) (w : World) (h : DiskIn w db lb mb cv n st) (hp1 : pi < n) (hp2 : pz.length = 32) (hear : 31 < tear) (ht2 : 31 ≤ 31) :
    Calls Try.prog 32 #[.pointer (some ⟨db, 0, none⟩), .agg (wrC (pi, pz)).toArray, .int .i64 tear] w (TornSays db lb mb cv n { st with safe := tornS st.safe (pi, pz) 31 } w) := by
  skip
  have hb0 := heap_alloc_new w (.cells (wrC (pi, pz)).toArray 63)
  have hbl : Below w.heap.size w (w.alloc (.cells (wrC (pi, pz)).toArray 63)) := (Below.refl _ _).alloc (Nat.le_refl _) _
  have hd2 := h.below hbl
  have hr2 : (w.alloc (.cells (wrC (pi, pz)).toArray 63)).rangeAt w.heap.size 0 (wrC (pi, pz)) := fun j v hv => by
    rw [cell_of_row _ _ _ _ _ _ hb0, Nat.zero_add]; simpa using hv
  have hlt := h.lt1
  go_enter Try.func32, Try.ntmps32
  go_wp2
  generalize (w.alloc (.cells (wrC (pi, pz)).toArray 63)) = W2 at *
  have k0 : W2.cell? ⟨db, 0, none⟩ = some (.slice (some ⟨lb, 0, none⟩) n n) := hd2.c0
  have k1 : W2.cell? ⟨w.heap.size, 0, none⟩ = some (.int .i64 pi) := hr2 0 _ rfl
  have k2 : W2.rangeAt w.heap.size 1 (secC (pz.take 31)) := take_range hr2 31
  have k3 : W2.there lb (pi * 32) 31 := fun j hj => (hd2.secs pi (by rw [hd2.wf.len]; exact hp1)).2 j (by omega)
  have hcs : (secC (pz.take 31)).length = 31 := by rw [secC_len, List.length_take]; omega
  have hone := secC_one (pz.take 31)
  have hset := Lib.hid (fun W3 (e : Hid (W3 = W2.drew.setCells lb (pi * 32) (secC (pz.take 31)))) => (hd2.below (below_drewN (Below.refl _ _) 1)).torn hp1 hp2 ht2 e)
  have hmv := Lib.hid (fun W3 (e : Hid (W3 = W2.drew.setCells lb (pi * 32) (secC (pz.take 31)))) => ((moves_of_below (F := (· = lb)) hbl).trans (moves_drewN (· = lb) W2 1) (fun _ x => .inl x)).trans (moves_store e) (fun _ x => .inl x))
  have hpi0 : (0 : Int) ≤ (pi : Int) := by omega
  have hpi1 : (pi : Int) < (n : Int) := by omega
  have ht0 : (0 : Int) ≤ (31 : Int) := by omega
  have ht3 : (31 : Int) ≤ 31 := by omega
  have ht4 : (31 : Int) ≤ 32 := by omega
  have hne0 : db ≠ lb := h.ne1
  have hne1 : w.heap.size ≠ lb := by omega
  generalize w.heap.size = nb at *
  clear hr2 hd2 h hb0 hbl
  have hcs' := Lib.hid hcs
  generalize secC (pz.take 31) = cs at *
  clear hcs
  go_region_held3 (fun w' => w'.cell? ⟨db, 0, none⟩ = some (.slice (some ⟨lb, 0, none⟩) n n) ∧ w'.cell? ⟨nb, 0, none⟩ = some (.int .i64 (pi : Int)) ∧ w'.rangeAt nb 1 cs ∧ w'.there lb (pi * 32) 31)
    (first | assumption | go_keep_ranges | (go_split_ands; rw [e3.out]; refine ⟨(cell_apart hne0).trans (by assumption), (cell_apart hne1).trans (by assumption), World.rangeAt_setCells_apart (by assumption) _ _ _ (.inl hne1), World.there_setCells (by assumption) _ _ _⟩))
    ((refine step_copyT (by rfl) _ _ _ _ (by rfl) 5 Try.underlying32 size_u8 lb (pi * 32) 32 32 nb 1 31 32 (by rfl) (by rfl) cs (by rw [hcs'.out]; exact (Nat.min_eq_left (by omega)).symm) k2 (by rw [hcs'.out]; exact k3) hone ?_; intro W3 e3))
  have hh := hset.out _ e3
  have hmm := hmv.out _ e3
  clear hset hmv
  go_end0
  exact ⟨rfl, hh, hmm⟩
theorem torn_any (db lb mb : Nat) (cv : Value) (n : Nat) (st : St) (pi : Nat) (pz : List Int) (t : Nat) (tear : Int) (w : World) (h : DiskIn w db lb mb cv n st) (hp1 : pi < n) (hp2 : pz.length = 32) (ht : tearOf tear = t) :
    Calls Try.prog 32 #[.pointer (some ⟨db, 0, none⟩), .agg (wrC (pi, pz)).toArray, .int .i64 tear] w (TornSays db lb mb cv n { st with safe := tornS st.safe (pi, pz) t } w) := by
  subst ht
  unfold tearOf
  by_cases h0 : tear < 0
  · rw [show min tear.toNat 31 = 0 by omega]; exact torn_low db lb mb cv n st pi pz tear w h hp1 hp2 h0 (by omega)
  · by_cases h1 : 31 < tear
    · rw [show min tear.toNat 31 = 31 by omega]; exact torn_high db lb mb cv n st pi pz tear w h hp1 hp2 h1 (by omega)
    · rw [show min tear.toNat 31 = tear.toNat by omega]; exact torn_mid db lb mb cv n st pi pz tear.toNat tear w h hp1 hp2 (by omega) (by omega)
end Go.Proofs.Ytckkgcogkcljeaa

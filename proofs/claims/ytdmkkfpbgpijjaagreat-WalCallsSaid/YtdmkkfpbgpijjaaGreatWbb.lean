/- disk: carryOutTorn. disk: Flush, Crash. -/
import Derived.Test.YtdmkkfpbgpijjaaGreatWba
import Derived.Laws.CopyOwn
namespace Go.Proofs.YtdmkkfpbgpijjaaGreat
open Go.RowKit Go.Deep Go.Maps
attribute [local go_sem ↓] Go.wp_at_zero Go.wp_at_succ

theorem step_copyT {P : Program} {ops : Array Oper} {o : Oper} {a : Act} {w : World} {K : Act → World → Prop} {Q : Exit → Act → World → Prop} {E : Prop} (hgd : o.guard = none) (d s : Operand) (dT sT : TypeId)
    (ho : o.op = .call { callee := .builtin .copy, args := #[d, s], argTypes := #[dT, sT] }) (elem : TypeId) (hu : P.underlying dT = some (.slice elem)) (hsz : (P.info? elem).map (·.size) = some 1)
    (b f dLen dCap sb sf sLen sCap : Nat) (hd : a.eval d = .slice (some ⟨b, f, none⟩) dLen dCap) (hs : a.eval s = .slice (some ⟨sb, sf, none⟩) sLen sCap) (cs : List Value) (hn : cs.length = Nat.min sLen dLen)
    (hsrc : w.rangeAt sb sf cs) (ht : w.there b f cs.length) (h1 : ∀ v ∈ cs, v.oneCell' = true)
    (h : ∀ w2, Hid (w2 = w.setCells b f cs) → K (a.put o.dst (goInt cs.length)) w2) :
    if Region.wanted o (yielded ops a.tmps) = true then Oper.wp P o a w K Q else E := by
  have hw : Region.wanted o (yielded ops a.tmps) = true := by simp [Region.wanted, hgd]
  rw [if_pos hw]
  have hrun := run_copy_cells (P := P) w dT sT o.type elem b f dLen dCap ⟨sb, sf, none⟩ sLen sCap cs hu hsz hn (fun j v hv => by rw [Addr.add_mid]; exact hsrc j v hv) (fun j hj => (ht j hj).1) (fun j hj => (ht j hj).2) h1
  unfold Oper.wp
  simp [execOp, ho, resolve, invoke, builtin, hd, hs, hrun, Result.andThen]
  exact h _ (Lib.hid rfl)

theorem secC_append (a b : List Int) : secC (a ++ b) = secC a ++ secC b := by simp [secC]
/-- A sector is written, but for its end. -/
theorem Secs.torn {W W2 : World} {lb n : Nat} {s : List (List Int)} {i t : Nat} {zs : List Int} (h : Secs W lb s) (hl : s.length = n) (hs : ∀ z ∈ s, z.length = 32) (hz : zs.length = 32) (ht : t ≤ 31) (e : Hid (W2 = W.setCells lb (i * 32) (secC (zs.take t)))) : Secs W2 lb (tornS s (i, zs) t) := by
  intro k hk
  unfold tornS at hk ⊢
  rw [List.length_set] at hk
  rw [secAt_set _ _ _ _ hk]
  have hzt : (secC (zs.take t)).length = t := by rw [secC_len, List.length_take]; omega
  by_cases he : i = k
  · subst he
    rw [if_pos rfl]
    refine ⟨?_, there_store e (h i hk).2⟩
    have hr := range_store e (by rw [hzt]; exact fun j hj => (h i hk).2 j (by omega))
    intro j v hv
    show W2.cell? ⟨lb, i * 32 + j, none⟩ = some v
    rw [secC_append] at hv
    rcases Nat.lt_or_ge j t with hj | hj
    · rw [List.getElem?_append_left (by rw [hzt]; exact hj)] at hv
      exact hr j v hv
    · rw [List.getElem?_append_right (by rw [hzt]; exact hj), hzt] at hv
      have e2 : (secC ((secAt s i).drop t))[j - t]? = (secC (secAt s i))[j]? := by
        simp only [secC, List.getElem?_map, List.getElem?_drop]
        rw [Nat.add_sub_cancel' hj]
      rw [e2] at hv
      rw [e.out, World.cell?_setCells_out lb _ _ W _ (fun _ _ => .inr (by rw [hzt]; show i * 32 + t ≤ i * 32 + j; omega))]
      exact (h i hk).1 j v hv
  · rw [if_neg he]
    have h1 := secAt_len hl hs (by omega : k < n)
    exact ⟨range_store_apart e (h k hk).1 (.inr (by rw [secC_len, h1, hzt]; omega)), there_store e (h k hk).2⟩
theorem DiskIn.torn {W W2 : World} {db lb mb : Nat} {cv : Value} {n : Nat} {st : St} {i t : Nat} {zs : List Int} (h : DiskIn W db lb mb cv n st) (hi : i < n) (hz : zs.length = 32) (ht : t ≤ 31) (e : Hid (W2 = W.setCells lb (i * 32) (secC (zs.take t)))) : DiskIn W2 db lb mb cv n { st with safe := tornS st.safe (i, zs) t } := by
  have hm := moves_store e
  have hb : ∀ k, k < W.heap.size → k ≠ lb → W2.heap[k]? = W.heap[k]? := fun k hk hn => hm.block k hk hn
  have h0 := hb db h.lt0 h.ne1
  obtain ⟨t1, t2⟩ := torn_len (p := (i, zs)) (t := t) h.wf.len h.wf.secs hi hz ht
  exact { c0 := (World.cell?_of_block (a := ⟨db, 0, none⟩) h0).trans h.c0, c1 := (World.cell?_of_block (a := ⟨db, 1, none⟩) h0).trans h.c1, c2 := (World.cell?_of_block (a := ⟨db, 2, none⟩) h0).trans h.c2, fz := (World.frozen?_of_block (a := ⟨db, 1, none⟩) h0).trans h.fz
          secs := h.secs.torn h.wf.len h.wf.secs hz ht e, row := row_kept h.row (fun k hk => hb k (h.row.lt k hk).2 (fun x => h.ne5 (x ▸ hk))), map := map_kept h.map (hb mb h.map.lt (Ne.symm h.ne3))
          wf := ⟨t1, t2, h.wf.at_, h.wf.has⟩
          n1 := h.n1, n2 := h.n2, lt0 := by rw [size_store e]; exact h.lt0, lt1 := by rw [size_store e]; exact h.lt1, ne1 := h.ne1, ne2 := h.ne2, ne3 := h.ne3, ne4 := h.ne4, ne5 := h.ne5, ne6 := h.ne6 }

def TornSays (db lb mb : Nat) (cv : Value) (n : Nat) (st : St) (w : World) (e : Ending) (w' : World) : Prop := e = .returned (.tuple #[]) ∧ DiskIn w' db lb mb cv n st ∧ Moves (· = lb) w w'
set_option maxRecDepth 100000 in
theorem sizeD_u8 : (Tryz.prog.info? 5).map (·.size) = some 1 := by kernel_rfl
theorem take_range {W : World} {b i : Nat} {pz : List Int} (h : W.rangeAt b 0 (wrC (i, pz))) (m : Nat) : W.rangeAt b 1 (secC (pz.take m)) := fun q v hv => by
  have hq : q < m := by
    rcases Nat.lt_or_ge q m with h | h
    · exact h
    · rw [List.getElem?_eq_none (by rw [secC_len, List.length_take]; omega)] at hv; cases hv
  have := h (q + 1) v (by
    rw [← hv]
    simp only [wrC, secC, List.getElem?_cons_succ, List.getElem?_map, List.getElem?_take_of_lt hq])
  rwa [show 0 + (q + 1) = 1 + q by omega] at this
set_option maxRecDepth 100000 in
set_option maxHeartbeats 1000000 in
theorem torn_mid (db lb mb : Nat) (cv : Value) (n : Nat) (st : St) (pi : Nat) (pz : List Int) (tt' : Nat) (tear : Int) (w : World) (h : DiskIn w db lb mb cv n st) (hp1 : pi < n) (hp2 : pz.length = 32) (hear : tear = tt') (ht2 : tt' ≤ 31) :
    Calls Tryz.prog 49 #[.pointer (some ⟨db, 0, none⟩), .agg (wrC (pi, pz)).toArray, .int .i64 tear] w (TornSays db lb mb cv n { st with safe := tornS st.safe (pi, pz) tt' } w) := by
  subst hear
  have hb0 := heap_alloc_new w (.cells (wrC (pi, pz)).toArray 100)
  have hbl : Below w.heap.size w (w.alloc (.cells (wrC (pi, pz)).toArray 100)) := (Below.refl _ _).alloc (Nat.le_refl _) _
  have hd2 := h.below hbl
  have hr2 : (w.alloc (.cells (wrC (pi, pz)).toArray 100)).rangeAt w.heap.size 0 (wrC (pi, pz)) := fun j v hv => by
    rw [cell_of_row _ _ _ _ _ _ hb0, Nat.zero_add]; simpa using hv
  have hlt := h.lt1
  go_enter Tryz.func49, Tryz.ntmps49
  go_wp2
  generalize (w.alloc (.cells (wrC (pi, pz)).toArray 100)) = W2 at *
  have k0 : W2.cell? ⟨db, 0, none⟩ = some (.slice (some ⟨lb, 0, none⟩) n n) := hd2.c0
  have k1 : W2.cell? ⟨w.heap.size, 0, none⟩ = some (.int .i64 pi) := hr2 0 _ rfl
  have k2 : W2.rangeAt w.heap.size 1 (secC (pz.take tt')) := take_range hr2 tt'
  have k3 : W2.there lb (pi * 32) tt' := fun j hj => (hd2.secs pi (by rw [hd2.wf.len]; exact hp1)).2 j (by omega)
  have hcs : (secC (pz.take tt')).length = tt' := by rw [secC_len, List.length_take]; omega
  have hone := secC_one (pz.take tt')
  have hset := Lib.hid (fun W3 (e : Hid (W3 = W2.drew.setCells lb (pi * 32) (secC (pz.take tt')))) => (hd2.below (below_drewN (Below.refl _ _) 1)).torn hp1 hp2 ht2 e)
  have hmv := Lib.hid (fun W3 (e : Hid (W3 = W2.drew.setCells lb (pi * 32) (secC (pz.take tt')))) => ((moves_of_below (F := (· = lb)) hbl).trans (moves_drewN (· = lb) W2 1) (fun _ x => .inl x)).trans (moves_store e) (fun _ x => .inl x))
  have hpi0 : (0 : Int) ≤ (pi : Int) := by omega
  have hpi1 : (pi : Int) < (n : Int) := by omega
  have ht0 : (0 : Int) ≤ (tt' : Int) := by omega
  have ht3 : (tt' : Int) ≤ 31 := by omega
  have ht4 : (tt' : Int) ≤ 32 := by omega
  have hne0 : db ≠ lb := h.ne1
  have hne1 : w.heap.size ≠ lb := by omega
  generalize w.heap.size = nb at *
  clear hr2 hd2 h hb0 hbl
  have hcs' := Lib.hid hcs
  generalize secC (pz.take tt') = cs at *
  clear hcs
  go_region_held3 (fun w' => w'.cell? ⟨db, 0, none⟩ = some (.slice (some ⟨lb, 0, none⟩) n n) ∧ w'.cell? ⟨nb, 0, none⟩ = some (.int .i64 (pi : Int)) ∧ w'.rangeAt nb 1 cs ∧ w'.there lb (pi * 32) tt')
    (first | assumption | go_keep_ranges | (go_split_ands; rw [e3.out]; refine ⟨(cell_apart hne0).trans (by assumption), (cell_apart hne1).trans (by assumption), World.rangeAt_setCells_apart (by assumption) _ _ _ (.inl hne1), World.there_setCells (by assumption) _ _ _⟩))
    ((refine step_copyT (by rfl) _ _ _ _ (by rfl) 5 Tryz.underlying39 sizeD_u8 lb (pi * 32) 32 32 nb 1 tt' 32 (by rfl) (by rfl) cs (by rw [hcs'.out]; exact (Nat.min_eq_left (by omega)).symm) k2 (by rw [hcs'.out]; exact k3) hone ?_; intro W3 e3))
  have hh := hset.out _ e3
  have hmm := hmv.out _ e3
  clear hset hmv
  go_end0
  exact ⟨rfl, hh, hmm⟩
set_option maxRecDepth 100000 in
set_option maxHeartbeats 1000000 in
theorem torn_low (db lb mb : Nat) (cv : Value) (n : Nat) (st : St) (pi : Nat) (pz : List Int)  (tear : Int) (w : World) (h : DiskIn w db lb mb cv n st) (hp1 : pi < n) (hp2 : pz.length = 32) (hear : tear < 0) (ht2 : 0 ≤ 31) :
    Calls Tryz.prog 49 #[.pointer (some ⟨db, 0, none⟩), .agg (wrC (pi, pz)).toArray, .int .i64 tear] w (TornSays db lb mb cv n { st with safe := tornS st.safe (pi, pz) 0 } w) := by
  skip
  have hb0 := heap_alloc_new w (.cells (wrC (pi, pz)).toArray 100)
  have hbl : Below w.heap.size w (w.alloc (.cells (wrC (pi, pz)).toArray 100)) := (Below.refl _ _).alloc (Nat.le_refl _) _
  have hd2 := h.below hbl
  have hr2 : (w.alloc (.cells (wrC (pi, pz)).toArray 100)).rangeAt w.heap.size 0 (wrC (pi, pz)) := fun j v hv => by
    rw [cell_of_row _ _ _ _ _ _ hb0, Nat.zero_add]; simpa using hv
  have hlt := h.lt1
  go_enter Tryz.func49, Tryz.ntmps49
  go_wp2
  generalize (w.alloc (.cells (wrC (pi, pz)).toArray 100)) = W2 at *
  have k0 : W2.cell? ⟨db, 0, none⟩ = some (.slice (some ⟨lb, 0, none⟩) n n) := hd2.c0
  have k1 : W2.cell? ⟨w.heap.size, 0, none⟩ = some (.int .i64 pi) := hr2 0 _ rfl
  have k2 : W2.rangeAt w.heap.size 1 (secC (pz.take 0)) := take_range hr2 0
  have k3 : W2.there lb (pi * 32) 0 := fun j hj => (hd2.secs pi (by rw [hd2.wf.len]; exact hp1)).2 j (by omega)
  have hcs : (secC (pz.take 0)).length = 0 := by rw [secC_len, List.length_take]; omega
  have hone := secC_one (pz.take 0)
  have hset := Lib.hid (fun W3 (e : Hid (W3 = W2.drew.setCells lb (pi * 32) (secC (pz.take 0)))) => (hd2.below (below_drewN (Below.refl _ _) 1)).torn hp1 hp2 ht2 e)
  have hmv := Lib.hid (fun W3 (e : Hid (W3 = W2.drew.setCells lb (pi * 32) (secC (pz.take 0)))) => ((moves_of_below (F := (· = lb)) hbl).trans (moves_drewN (· = lb) W2 1) (fun _ x => .inl x)).trans (moves_store e) (fun _ x => .inl x))
  have hpi0 : (0 : Int) ≤ (pi : Int) := by omega
  have hpi1 : (pi : Int) < (n : Int) := by omega
  have ht0 : (0 : Int) ≤ (0 : Int) := by omega
  have ht3 : (0 : Int) ≤ 31 := by omega
  have ht4 : (0 : Int) ≤ 32 := by omega
  have hne0 : db ≠ lb := h.ne1
  have hne1 : w.heap.size ≠ lb := by omega
  generalize w.heap.size = nb at *
  clear hr2 hd2 h hb0 hbl
  have hcs' := Lib.hid hcs
  generalize secC (pz.take 0) = cs at *
  clear hcs
  go_region_held3 (fun w' => w'.cell? ⟨db, 0, none⟩ = some (.slice (some ⟨lb, 0, none⟩) n n) ∧ w'.cell? ⟨nb, 0, none⟩ = some (.int .i64 (pi : Int)) ∧ w'.rangeAt nb 1 cs ∧ w'.there lb (pi * 32) 0)
    (first | assumption | go_keep_ranges | (go_split_ands; rw [e3.out]; refine ⟨(cell_apart hne0).trans (by assumption), (cell_apart hne1).trans (by assumption), World.rangeAt_setCells_apart (by assumption) _ _ _ (.inl hne1), World.there_setCells (by assumption) _ _ _⟩))
    ((refine step_copyT (by rfl) _ _ _ _ (by rfl) 5 Tryz.underlying39 sizeD_u8 lb (pi * 32) 32 32 nb 1 0 32 (by rfl) (by rfl) cs (by rw [hcs'.out]; exact (Nat.min_eq_left (by omega)).symm) k2 (by rw [hcs'.out]; exact k3) hone ?_; intro W3 e3))
  have hh := hset.out _ e3
  have hmm := hmv.out _ e3
  clear hset hmv
  go_end0
  exact ⟨rfl, hh, hmm⟩
set_option maxRecDepth 100000 in
set_option maxHeartbeats 1000000 in
theorem torn_high (db lb mb : Nat) (cv : Value) (n : Nat) (st : St) (pi : Nat) (pz : List Int)  (tear : Int) (w : World) (h : DiskIn w db lb mb cv n st) (hp1 : pi < n) (hp2 : pz.length = 32) (hear : 31 < tear) (ht2 : 31 ≤ 31) :
    Calls Tryz.prog 49 #[.pointer (some ⟨db, 0, none⟩), .agg (wrC (pi, pz)).toArray, .int .i64 tear] w (TornSays db lb mb cv n { st with safe := tornS st.safe (pi, pz) 31 } w) := by
  skip
  have hb0 := heap_alloc_new w (.cells (wrC (pi, pz)).toArray 100)
  have hbl : Below w.heap.size w (w.alloc (.cells (wrC (pi, pz)).toArray 100)) := (Below.refl _ _).alloc (Nat.le_refl _) _
  have hd2 := h.below hbl
  have hr2 : (w.alloc (.cells (wrC (pi, pz)).toArray 100)).rangeAt w.heap.size 0 (wrC (pi, pz)) := fun j v hv => by
    rw [cell_of_row _ _ _ _ _ _ hb0, Nat.zero_add]; simpa using hv
  have hlt := h.lt1
  go_enter Tryz.func49, Tryz.ntmps49
  go_wp2
  generalize (w.alloc (.cells (wrC (pi, pz)).toArray 100)) = W2 at *
  have k0 : W2.cell? ⟨db, 0, none⟩ = some (.slice (some ⟨lb, 0, none⟩) n n) := hd2.c0
  have k1 : W2.cell? ⟨w.heap.size, 0, none⟩ = some (.int .i64 pi) := hr2 0 _ rfl
  have k2 : W2.rangeAt w.heap.size 1 (secC (pz.take 31)) := take_range hr2 31
  have k3 : W2.there lb (pi * 32) 31 := fun j hj => (hd2.secs pi (by rw [hd2.wf.len]; exact hp1)).2 j (by omega)
  have hcs : (secC (pz.take 31)).length = 31 := by rw [secC_len, List.length_take]; omega
  have hone := secC_one (pz.take 31)
  have hset := Lib.hid (fun W3 (e : Hid (W3 = W2.drew.setCells lb (pi * 32) (secC (pz.take 31)))) => (hd2.below (below_drewN (Below.refl _ _) 1)).torn hp1 hp2 ht2 e)
  have hmv := Lib.hid (fun W3 (e : Hid (W3 = W2.drew.setCells lb (pi * 32) (secC (pz.take 31)))) => ((moves_of_below (F := (· = lb)) hbl).trans (moves_drewN (· = lb) W2 1) (fun _ x => .inl x)).trans (moves_store e) (fun _ x => .inl x))
  have hpi0 : (0 : Int) ≤ (pi : Int) := by omega
  have hpi1 : (pi : Int) < (n : Int) := by omega
  have ht0 : (0 : Int) ≤ (31 : Int) := by omega
  have ht3 : (31 : Int) ≤ 31 := by omega
  have ht4 : (31 : Int) ≤ 32 := by omega
  have hne0 : db ≠ lb := h.ne1
  have hne1 : w.heap.size ≠ lb := by omega
  generalize w.heap.size = nb at *
  clear hr2 hd2 h hb0 hbl
  have hcs' := Lib.hid hcs
  generalize secC (pz.take 31) = cs at *
  clear hcs
  go_region_held3 (fun w' => w'.cell? ⟨db, 0, none⟩ = some (.slice (some ⟨lb, 0, none⟩) n n) ∧ w'.cell? ⟨nb, 0, none⟩ = some (.int .i64 (pi : Int)) ∧ w'.rangeAt nb 1 cs ∧ w'.there lb (pi * 32) 31)
    (first | assumption | go_keep_ranges | (go_split_ands; rw [e3.out]; refine ⟨(cell_apart hne0).trans (by assumption), (cell_apart hne1).trans (by assumption), World.rangeAt_setCells_apart (by assumption) _ _ _ (.inl hne1), World.there_setCells (by assumption) _ _ _⟩))
    ((refine step_copyT (by rfl) _ _ _ _ (by rfl) 5 Tryz.underlying39 sizeD_u8 lb (pi * 32) 32 32 nb 1 31 32 (by rfl) (by rfl) cs (by rw [hcs'.out]; exact (Nat.min_eq_left (by omega)).symm) k2 (by rw [hcs'.out]; exact k3) hone ?_; intro W3 e3))
  have hh := hset.out _ e3
  have hmm := hmv.out _ e3
  clear hset hmv
  go_end0
  exact ⟨rfl, hh, hmm⟩
theorem torn_any (db lb mb : Nat) (cv : Value) (n : Nat) (st : St) (pi : Nat) (pz : List Int) (t : Nat) (tear : Int) (w : World) (h : DiskIn w db lb mb cv n st) (hp1 : pi < n) (hp2 : pz.length = 32) (ht : tearOf tear = t) :
    Calls Tryz.prog 49 #[.pointer (some ⟨db, 0, none⟩), .agg (wrC (pi, pz)).toArray, .int .i64 tear] w (TornSays db lb mb cv n { st with safe := tornS st.safe (pi, pz) t } w) := by
  subst ht
  unfold tearOf
  by_cases h0 : tear < 0
  · rw [show min tear.toNat 31 = 0 by omega]; exact torn_low db lb mb cv n st pi pz tear w h hp1 hp2 h0 (by omega)
  · by_cases h1 : 31 < tear
    · rw [show min tear.toNat 31 = 31 by omega]; exact torn_high db lb mb cv n st pi pz tear w h hp1 hp2 h1 (by omega)
    · rw [show min tear.toNat 31 = tear.toNat by omega]; exact torn_mid db lb mb cv n st pi pz tear.toNat tear w h hp1 hp2 (by omega) (by omega)
end Go.Proofs.YtdmkkfpbgpijjaaGreat
namespace Go.Proofs.YtdmkkfpbgpijjaaGreat
open Go.RowKit Go.Deep Go.Maps

theorem row_shape {w : World} {e : TypeId} {size : Nat} {v : Value} {n : Nat} {xs : List Value} (h : w.ownsRow 0 e size v n xs) : ∃ A c, v = .slice A n c ∧ n ≤ c := by
  rcases h.2 with ⟨rfl, rfl⟩ | ⟨g, cap, cur, rfl, _, _, hc, _⟩
  · exact ⟨none, 0, rfl, Nat.le_refl _⟩
  · exact ⟨_, cap, rfl, hc⟩
/-- A call that turns a disk, and nothing else that was there. -/
def Does (F : Nat → Prop) (db n : Nat) (st : St) (v : Value) (w : World) (e : Ending) (w' : World) : Prop := e = .returned v ∧ DiskAt w' (grow F w w') db n st ∧ Moves F w w'
theorem does_mk {F : Nat → Prop} {db lb mb n : Nat} {cv : Value} {st : St} {v : Value} {w w' : World} (h : DiskIn w' db lb mb cv n st) (hm : Moves F w w') (f0 : F db) (f1 : F lb) (f2 : F mb) (f3 : ∀ k, cv.ownBlock = some k → F k ∨ w.heap.size ≤ k) (f4 : ∀ k, F k → k < w.heap.size) : Does F db n st v w (.returned v) w' := by
  refine ⟨rfl, ⟨lb, mb, cv, h, .inl f0, .inl f1, .inl f2, fun k hk => (f3 k hk).elim .inl (fun g => .inr ⟨g, (h.row.lt k hk).2⟩), ?_⟩, hm⟩
  rintro k (hk | hk)
  · exact Nat.lt_of_lt_of_le (f4 k hk) hm.size
  · exact hk.2
set_option maxRecDepth 100000 in
set_option maxHeartbeats 1000000 in
theorem flush_any (F : Nat → Prop) (db n : Nat) (st : St) (w : World) (h : DiskAt w F db n st) (hc : st.cache.length ≤ 1000) :
    Calls Tryz.prog 44 #[.pointer (some ⟨db, 0, none⟩)] w (Does F db n (flushS st) (.tuple #[]) w) := by
  obtain ⟨lb, mb, cv, h, f0, f1, f2, f3, f4⟩ := h
  obtain ⟨A, c, rfl, _⟩ := row_shape h.row
  have c1 := h.c1
  go_enter Tryz.func44, Tryz.ntmps44
  go_wp2_with fail
  refine (carry_any db lb mb _ n st A _ c w h ⟨_, _, rfl⟩ (Nat.le_refl _) hc).mono ?_
  rintro e w1 ⟨rfl, h1, m1⟩
  have H1 := Lib.hid h1
  have M1 := Lib.hid m1
  clear h1 m1
  go_wp2_with fail
  refine (empty_any db lb mb _ n _ w1 H1.out).mono ?_
  rintro e w2 ⟨rfl, h2, m2⟩
  have H2 := Lib.hid h2
  have M2 := Lib.hid m2
  clear h2 m2
  go_wp2
  go_end0
  have h2 := H2.out
  rw [List.take_length] at h2
  exact does_mk h2 ((M1.out.mono (fun _ e => e ▸ f1)).trans (M2.out.mono (fun k (e : k = db ∨ k = mb) => (e.elim (fun x => x ▸ f0) (fun x => x ▸ f2) : F k))) (fun _ e => .inl e)) f0 f1 f2 (fun k hk => by cases hk) f4
theorem crash_all_eq (st : St) (keep tear : Int) (h : keptOf keep st.cache.length = st.cache.length) : crashS st keep tear = flushS st := by
  unfold crashS crashL flushS nows
  rw [h, List.getElem?_eq_none (Nat.le_refl _)]
theorem crash_some_eq (st : St) (keep tear : Int) (k : Nat) (p : Nat × List Int) (h : keptOf keep st.cache.length = k) (hp : st.cache[k]? = some p) : crashS st keep tear = { safe := tornS (carry st.safe (st.cache.take k)) p (tearOf tear), cache := [] } := by
  unfold crashS crashL
  rw [h, hp]
set_option maxRecDepth 100000 in
set_option maxHeartbeats 1000000 in
theorem crash_all (F : Nat → Prop) (db n : Nat) (st : St) (keep tear : Int) (w : World) (h : DiskAt w F db n st) (hc : st.cache.length ≤ 1000) (hk : (st.cache.length : Int) < keep) :
    Calls Tryz.prog 16 #[.pointer (some ⟨db, 0, none⟩), .int .i64 keep, .int .i64 tear] w (Does F db n (crashS st keep tear) (.tuple #[]) w) := by
  obtain ⟨lb, mb, cv, h, f0, f1, f2, f3, f4⟩ := h
  obtain ⟨A, c, rfl, hcl⟩ := row_shape h.row
  rw [crash_all_eq st keep tear (by unfold keptOf; omega)]
  have c1 := h.c1
  skip
  go_enter Tryz.func16, Tryz.ntmps16
  go_wp2_with fail
  refine (carry_any db lb mb _ n st A _ c w h ⟨_, _, rfl⟩ (Nat.le_refl _) hc).mono ?_
  rintro e w1 ⟨rfl, h1, m1⟩
  have H1 := Lib.hid h1
  have M1 := Lib.hid m1
  have c1b := h1.c1
  clear h1 m1
  go_wp2_with fail
  refine (empty_any db lb mb _ n _ w1 H1.out).mono ?_
  rintro e w2 ⟨rfl, h2, m2⟩
  have H2 := Lib.hid h2
  have M2 := Lib.hid m2
  clear h2 m2
  go_wp2
  go_end0
  have h2 := H2.out
  rw [List.take_length] at h2
  exact does_mk h2 ((M1.out.mono (fun _ e => e ▸ f1)).trans (M2.out.mono (fun k (e : k = db ∨ k = mb) => (e.elim (fun x => x ▸ f0) (fun x => x ▸ f2) : F k))) (fun _ e => .inl e)) f0 f1 f2 (fun k hk => by cases hk) f4
set_option maxRecDepth 100000 in
set_option maxHeartbeats 1000000 in
theorem crash_same (F : Nat → Prop) (db n : Nat) (st : St) (keep tear : Int) (w : World) (h : DiskAt w F db n st) (hc : st.cache.length ≤ 1000) (hk : keep = (st.cache.length : Int)) :
    Calls Tryz.prog 16 #[.pointer (some ⟨db, 0, none⟩), .int .i64 keep, .int .i64 tear] w (Does F db n (crashS st keep tear) (.tuple #[]) w) := by
  obtain ⟨lb, mb, cv, h, f0, f1, f2, f3, f4⟩ := h
  obtain ⟨A, c, rfl, hcl⟩ := row_shape h.row
  rw [crash_all_eq st keep tear (by unfold keptOf; omega)]
  have c1 := h.c1
  subst hk
  go_enter Tryz.func16, Tryz.ntmps16
  go_wp2_with fail
  refine (carry_any db lb mb _ n st A _ c w h ⟨_, _, rfl⟩ (Nat.le_refl _) hc).mono ?_
  rintro e w1 ⟨rfl, h1, m1⟩
  have H1 := Lib.hid h1
  have M1 := Lib.hid m1
  have c1b := h1.c1
  clear h1 m1
  go_wp2_with fail
  refine (empty_any db lb mb _ n _ w1 H1.out).mono ?_
  rintro e w2 ⟨rfl, h2, m2⟩
  have H2 := Lib.hid h2
  have M2 := Lib.hid m2
  clear h2 m2
  go_wp2
  go_end0
  have h2 := H2.out
  rw [List.take_length] at h2
  exact does_mk h2 ((M1.out.mono (fun _ e => e ▸ f1)).trans (M2.out.mono (fun k (e : k = db ∨ k = mb) => (e.elim (fun x => x ▸ f0) (fun x => x ▸ f2) : F k))) (fun _ e => .inl e)) f0 f1 f2 (fun k hk => by cases hk) f4
set_option maxRecDepth 100000 in
set_option maxHeartbeats 1000000 in
theorem crash_none (F : Nat → Prop) (db n : Nat) (sf : List (List Int)) (keep tear : Int) (w : World) (h : DiskAt w F db n ⟨sf, []⟩) (hk : keep < 0) :
    Calls Tryz.prog 16 #[.pointer (some ⟨db, 0, none⟩), .int .i64 keep, .int .i64 tear] w (Does F db n (crashS ⟨sf, []⟩ keep tear) (.tuple #[]) w) := by
  obtain ⟨lb, mb, cv, h, f0, f1, f2, f3, f4⟩ := h
  obtain ⟨A, c, rfl, hcl⟩ := row_shape h.row
  rw [crash_all_eq ⟨sf, []⟩ keep tear (by simp [keptOf])]
  have c1 : w.cell? ⟨db, 1, none⟩ = some (.slice A 0 c) := h.c1
  have g1 : (0 : Int) ≤ (c : Int) := by omega
  go_enter Tryz.func16, Tryz.ntmps16
  go_wp2_with fail
  refine (carry_any db lb mb _ n ⟨sf, []⟩ A 0 c w h ⟨_, _, rfl⟩ (Nat.zero_le _) (by omega)).mono ?_
  rintro e w1 ⟨rfl, h1, m1⟩
  have H1 := Lib.hid h1
  have M1 := Lib.hid m1
  have c1b : w1.cell? ⟨db, 1, none⟩ = some (.slice A 0 c) := h1.c1
  clear h1 m1
  go_wp2_with fail
  refine (empty_any db lb mb _ n _ w1 H1.out).mono ?_
  rintro e w2 ⟨rfl, h2, m2⟩
  have H2 := Lib.hid h2
  have M2 := Lib.hid m2
  clear h2 m2
  go_wp2
  go_end0
  exact does_mk H2.out ((M1.out.mono (fun _ e => e ▸ f1)).trans (M2.out.mono (fun k (e : k = db ∨ k = mb) => (e.elim (fun x => x ▸ f0) (fun x => x ▸ f2) : F k))) (fun _ e => .inl e)) f0 f1 f2 (fun k hk => by cases hk) f4
set_option maxRecDepth 100000 in
set_option maxHeartbeats 1000000 in
theorem crash_some (F : Nat → Prop) (db n : Nat) (st : St) (kk' : Nat) (keep tear : Int) (w : World) (h : DiskAt w F db n st) (hc : st.cache.length ≤ 1000) (hk : keep = kk') (hkl : kk' < st.cache.length) :
    Calls Tryz.prog 16 #[.pointer (some ⟨db, 0, none⟩), .int .i64 keep, .int .i64 tear] w (Does F db n (crashS st keep tear) (.tuple #[]) w) := by
  obtain ⟨lb, mb, cv, h, f0, f1, f2, f3, f4⟩ := h
  obtain ⟨A, c, rfl, hcl⟩ := row_shape h.row
  have hp : st.cache[kk']? = some st.cache[kk'] := List.getElem?_eq_getElem hkl
  have hmem := List.mem_of_getElem? hp
  generalize st.cache[kk'] = p at *
  have hp1 := h.wf.at_ p hmem
  have hp2 := h.wf.has p hmem
  rw [crash_some_eq st keep tear kk' p (by unfold keptOf; omega) hp]
  have c1 := h.c1
  subst hk
  have HP := Lib.hid hp
  have HP2 := Lib.hid hp2
  clear hp hmem hp2
  have g0 : (kk' : Int) < (st.cache.length : Int) := by omega
  have g1 : (kk' : Int) ≤ (c : Int) := by omega
  go_enter Tryz.func16, Tryz.ntmps16
  go_wp2_with fail
  refine (carry_any db lb mb _ n st A kk' c w h ⟨_, _, rfl⟩ (by omega) (by omega)).mono ?_
  rintro e w1 ⟨rfl, h1, m1⟩
  have H1 := Lib.hid h1
  have M1 := Lib.hid m1
  have c1b := h1.c1
  obtain ⟨cb, cap, hv, _, hcbl⟩ := h1.row.form (by show 0 < st.cache.length; omega)
  obtain rfl : A = some ⟨cb, 0, none⟩ := by injection hv
  have hR := Lib.hid (row_range h1.row rfl h1.wf.has HP.out)
  have hc33 := Lib.hid (wrC_len p HP2.out)
  clear h1 m1 hv
  go_wp2_with (first | (refine wpList_load_mid rfl 100 (.tmp 36) rfl cb (kk' * 33) rfl (wrC p) _ hR.out Tryz.underlying100 rfl (by rw [hc33.out]; exact size_wr) ?_))
  refine (torn_any db lb mb _ n _ p.1 p.2 (tearOf tear) tear w1 H1.out hp1 HP2.out rfl).mono ?_
  rintro e w2 ⟨rfl, h2, m2⟩
  have H2 := Lib.hid h2
  have M2 := Lib.hid m2
  clear h2 m2
  go_wp2_with fail
  refine (empty_any db lb mb _ n _ w2 H2.out).mono ?_
  rintro e w3 ⟨rfl, h3, m3⟩
  have H3 := Lib.hid h3
  have M3 := Lib.hid m3
  clear h3 m3
  go_wp2
  go_end0
  exact does_mk H3.out (((M1.out.mono (fun _ e => e ▸ f1)).trans (M2.out.mono (fun _ e => (e ▸ f1 : F _))) (fun _ e => .inl e)).trans (M3.out.mono (fun k (e : k = db ∨ k = mb) => (e.elim (fun x => x ▸ f0) (fun x => x ▸ f2) : F k))) (fun _ e => .inl e)) f0 f1 f2 (fun k hk => by cases hk) f4
set_option maxRecDepth 100000 in
set_option maxHeartbeats 1000000 in
theorem crash_low (F : Nat → Prop) (db n : Nat) (st : St)  (keep tear : Int) (w : World) (h : DiskAt w F db n st) (hc : st.cache.length ≤ 1000) (hk : keep < 0) (hkl : 0 < st.cache.length) :
    Calls Tryz.prog 16 #[.pointer (some ⟨db, 0, none⟩), .int .i64 keep, .int .i64 tear] w (Does F db n (crashS st keep tear) (.tuple #[]) w) := by
  obtain ⟨lb, mb, cv, h, f0, f1, f2, f3, f4⟩ := h
  obtain ⟨A, c, rfl, hcl⟩ := row_shape h.row
  have hp : st.cache[0]? = some st.cache[0] := List.getElem?_eq_getElem hkl
  have hmem := List.mem_of_getElem? hp
  generalize st.cache[0] = p at *
  have hp1 := h.wf.at_ p hmem
  have hp2 := h.wf.has p hmem
  rw [crash_some_eq st keep tear 0 p (by unfold keptOf; omega) hp]
  have c1 := h.c1
  skip
  have HP := Lib.hid hp
  have HP2 := Lib.hid hp2
  clear hp hmem hp2
  have g0 : (0 : Int) < (st.cache.length : Int) := by omega
  have g1 : (0 : Int) ≤ (c : Int) := by omega
  go_enter Tryz.func16, Tryz.ntmps16
  go_wp2_with fail
  refine (carry_any db lb mb _ n st A 0 c w h ⟨_, _, rfl⟩ (by omega) (by omega)).mono ?_
  rintro e w1 ⟨rfl, h1, m1⟩
  have H1 := Lib.hid h1
  have M1 := Lib.hid m1
  have c1b := h1.c1
  obtain ⟨cb, cap, hv, _, hcbl⟩ := h1.row.form (by show 0 < st.cache.length; omega)
  obtain rfl : A = some ⟨cb, 0, none⟩ := by injection hv
  have hR := Lib.hid (row_range h1.row rfl h1.wf.has HP.out)
  have hc33 := Lib.hid (wrC_len p HP2.out)
  clear h1 m1 hv
  go_wp2_with (first | (refine wpList_load_mid rfl 100 (.tmp 36) rfl cb 0 rfl (wrC p) _ hR.out Tryz.underlying100 rfl (by rw [hc33.out]; exact size_wr) ?_))
  refine (torn_any db lb mb _ n _ p.1 p.2 (tearOf tear) tear w1 H1.out hp1 HP2.out rfl).mono ?_
  rintro e w2 ⟨rfl, h2, m2⟩
  have H2 := Lib.hid h2
  have M2 := Lib.hid m2
  clear h2 m2
  go_wp2_with fail
  refine (empty_any db lb mb _ n _ w2 H2.out).mono ?_
  rintro e w3 ⟨rfl, h3, m3⟩
  have H3 := Lib.hid h3
  have M3 := Lib.hid m3
  clear h3 m3
  go_wp2
  go_end0
  exact does_mk H3.out (((M1.out.mono (fun _ e => e ▸ f1)).trans (M2.out.mono (fun _ e => (e ▸ f1 : F _))) (fun _ e => .inl e)).trans (M3.out.mono (fun k (e : k = db ∨ k = mb) => (e.elim (fun x => x ▸ f0) (fun x => x ▸ f2) : F k))) (fun _ e => .inl e)) f0 f1 f2 (fun k hk => by cases hk) f4
theorem crash_any (F : Nat → Prop) (db n : Nat) (st : St) (keep tear : Int) (w : World) (h : DiskAt w F db n st) (hc : st.cache.length ≤ 1000) :
    Calls Tryz.prog 16 #[.pointer (some ⟨db, 0, none⟩), .int .i64 keep, .int .i64 tear] w (Does F db n (crashS st keep tear) (.tuple #[]) w) := by
  by_cases h0 : keep < 0
  · by_cases h1 : st.cache.length = 0
    · obtain ⟨sf, ca⟩ := st
      obtain rfl : ca = [] := List.eq_nil_of_length_eq_zero h1
      exact crash_none F db n sf keep tear w h h0
    · exact crash_low F db n st keep tear w h hc h0 (by omega)
  · by_cases h1 : (st.cache.length : Int) < keep
    · exact crash_all F db n st keep tear w h hc h1
    · by_cases h2 : keep = (st.cache.length : Int)
      · exact crash_same F db n st keep tear w h hc h2
      · exact crash_some F db n st keep.toNat keep tear w h hc (by omega) (by omega)
end Go.Proofs.YtdmkkfpbgpijjaaGreat

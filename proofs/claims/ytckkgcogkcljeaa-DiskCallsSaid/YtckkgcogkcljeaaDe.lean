/- disk: carryOut, emptyCache, carryOutTorn, Flush, Crash. -/
import Derived.Test.YtckkgcogkcljeaaDd
import Derived.Deep.RegionHeld3
import Derived.Deep.DrawnRows
namespace Go.Proofs.Ytckkgcogkcljeaa
open Go.RowKit Go.Deep Go.Maps

theorem info_wr2 : (Try.prog.info? 63).map (fun i => (i.zero, i.size)) = some (some (.agg (#[Value.int .i64 0] ++ Array.replicate 32 (Value.int .u8 0))), 33) := by kernel_rfl
theorem size_wr : (Try.prog.info? 63).map (·.size) = some 33 := by kernel_rfl

theorem wrC_len (p : Nat × List Int) (h : p.2.length = 32) : (wrC p).length = 33 := by simp [wrC, secC_len, h]
/-- The cells of the j-th write in the cache. -/
theorem row_range {w : World} {cv : Value} {g : Nat} {ws : List (Nat × List Int)} (h : w.ownsRow 0 63 33 cv ws.length (ws.flatMap wrC)) (hg : cv.ownBlock = some g) (hl : ∀ p ∈ ws, p.2.length = 32) {j : Nat} {p : Nat × List Int} (hj : ws[j]? = some p) :
    w.rangeAt g (j * 33) (wrC p) := fun k v hv => by
  have hp := wrC_len p (hl p (List.mem_of_getElem? hj))
  have hk : k < 33 := by
    rcases Nat.lt_or_ge k 33 with h | h
    · exact h
    · rw [List.getElem?_eq_none (by omega)] at hv; cases hv
  have := h.cells hg (j * 33 + k) v (by rw [flat_at wrC 33 ws (fun x hx => wrC_len x (hl x hx)) j p hj k hk]; exact hv)
  rwa [Go.WideShapes.add_plain, Nat.zero_add] at this
theorem cell_apart {W : World} {b o b' f : Nat} {vs : List Value} (hne : b' ≠ b) : (W.setCells b o vs).cell? ⟨b', f, none⟩ = W.cell? ⟨b', f, none⟩ := World.cell?_setCells_out b vs o W ⟨b', f, none⟩ (fun e => absurd e hne)
theorem setCells_drew (b : Nat) : ∀ (vs : List Value) (o : Nat) (w : World), w.drew.setCells b o vs = (w.setCells b o vs).drew
  | [], _, _ => rfl
  | v :: vs, o, w => setCells_drew b vs (o + 1) (w.setCell ⟨b, o, none⟩ v)
/-- A sector is written. -/
theorem Secs.set {W W2 : World} {lb n : Nat} {s : List (List Int)} {i : Nat} {zs : List Int} (h : Secs W lb s) (hl : s.length = n) (hs : ∀ z ∈ s, z.length = 32) (hz : zs.length = 32) (e : Hid (W2 = W.setCells lb (i * 32) (secC zs))) : Secs W2 lb (s.set i zs) := by
  intro k hk
  rw [List.length_set] at hk
  rw [secAt_set _ _ _ _ hk]
  by_cases he : i = k
  · subst he
    rw [if_pos rfl]
    exact ⟨range_store e (by rw [secC_len, hz]; exact (h i hk).2), there_store e (h i hk).2⟩
  · rw [if_neg he]
    have h1 := secAt_len hl hs (by omega : k < n)
    exact ⟨range_store_apart e (h k hk).1 (.inr (by rw [secC_len, secC_len, h1, hz]; omega)), there_store e (h k hk).2⟩
/-- Behind a write of one sector that lasts. -/
theorem DiskIn.stored {W W2 : World} {db lb mb : Nat} {cv : Value} {n : Nat} {st : St} {i : Nat} {zs : List Int} (h : DiskIn W db lb mb cv n st) (hz : zs.length = 32) (e : Hid (W2 = W.setCells lb (i * 32) (secC zs))) : DiskIn W2 db lb mb cv n { st with safe := st.safe.set i zs } := by
  have hm := moves_store e
  have hb : ∀ k, k < W.heap.size → k ≠ lb → W2.heap[k]? = W.heap[k]? := fun k hk hn => hm.block k hk hn
  have h0 := hb db h.lt0 h.ne1
  exact { c0 := (World.cell?_of_block (a := ⟨db, 0, none⟩) h0).trans h.c0, c1 := (World.cell?_of_block (a := ⟨db, 1, none⟩) h0).trans h.c1, c2 := (World.cell?_of_block (a := ⟨db, 2, none⟩) h0).trans h.c2, fz := (World.frozen?_of_block (a := ⟨db, 1, none⟩) h0).trans h.fz
          secs := h.secs.set h.wf.len h.wf.secs hz e, row := row_kept h.row (fun k hk => hb k (h.row.lt k hk).2 (fun x => h.ne5 (x ▸ hk))), map := map_kept h.map (hb mb h.map.lt (Ne.symm h.ne3))
          wf := ⟨by simpa using h.wf.len, fun z hz' => by
            rcases List.mem_or_eq_of_mem_set hz' with h1 | h1
            · exact h.wf.secs z h1
            · rw [h1]; exact hz, h.wf.at_, h.wf.has⟩
          n1 := h.n1, n2 := h.n2, lt0 := by rw [size_store e]; exact h.lt0, lt1 := by rw [size_store e]; exact h.lt1, ne1 := h.ne1, ne2 := h.ne2, ne3 := h.ne3, ne4 := h.ne4, ne5 := h.ne5, ne6 := h.ne6 }

attribute [local go_sem ↓] Go.wp_at_zero Go.wp_at_succ
def CarrySays (db lb mb : Nat) (cv : Value) (n : Nat) (st : St) (w : World) (e : Ending) (w' : World) : Prop := e = .returned (.tuple #[]) ∧ DiskIn w' db lb mb cv n st ∧ Moves (· = lb) w w'
set_option maxRecDepth 100000 in
set_option maxHeartbeats 1000000 in
theorem carry_any (db lb mb : Nat) (cv : Value) (n : Nat) (st : St) (A : Option Addr) (l c : Nat) (w : World) (h : DiskIn w db lb mb cv n st) (hcv : ∃ L C, cv = .slice A L C) (hl : l ≤ st.cache.length) (hl2 : l ≤ 1000) :
    Calls Try.prog 30 #[.pointer (some ⟨db, 0, none⟩), .slice A l c] w (CarrySays db lb mb cv n { st with safe := carry st.safe (st.cache.take l) } w) := by
  go_enter Try.func30, Try.ntmps30
  go_wp2
  go_loopw [8] (fun k wr => ∃ j : Nat, j ≤ l ∧ k = .int .i64 j ∧ DiskIn wr db lb mb cv n { st with safe := carry st.safe (st.cache.take j) } ∧ Moves (· = lb) w wr) (fun k _ => l - (intOf k).toNat)
  case atStart => exact ⟨0, by omega, rfl, h, Moves.refl _ _⟩
  case round =>
    obtain ⟨j, hj, rfl, hd, hm⟩ := hrel
    by_cases hlt : j < l
    · have hjc : j < st.cache.length := by omega
      have hp : st.cache[j]? = some st.cache[j] := List.getElem?_eq_getElem hjc
      have hmem := List.mem_of_getElem? hp
      have hta := Lib.hid (List.take_succ_eq_append_getElem hjc)
      generalize st.cache[j] = p at *
      have hp1 := h.wf.at_ p hmem
      have hp2 := h.wf.has p hmem
      obtain ⟨L, C, rfl⟩ := hcv
      have hdr := hd.row
      obtain ⟨cb, cap, hv, _, hcl⟩ := hdr.form (by show 0 < st.cache.length; omega)
      obtain rfl : A = some ⟨cb, 0, none⟩ := by injection hv
      have hR := Lib.hid (row_range hdr rfl hd.wf.has hp)
      have hc33 := Lib.hid (wrC_len p hp2)
      have hc32 := Lib.hid ((secC_len p.2).trans hp2)
      have hlt' : (j : Int) < (l : Int) := by omega
      clear hmem hp hv hdr
      have HP2 := Lib.hid hp2
      clear hp2
      go_wp2_with (first | (refine wpList_load_mid rfl 63 (.tmp 10) rfl cb (j * 33) rfl (wrC p) _ hR.out Try.underlying63 rfl (by rw [hc33.out]; exact size_wr) ?_) | (refine wpList_allocT rfl 63 rfl _ 33 (by simp) info_wr2 ?_; intro W1 e1 b1 t1; have T1 := Lib.hid t1; have E1 := Lib.hid e1; clear t1 e1) | (refine wpList_storeT rfl 63 _ (.tmp 11) rfl _ _ (wrC p) rfl rfl (by rw [hc33.out]; exact T1.out) (by rw [hc33.out]; exact size_wr) (wrC_one _) ?_; intro W2 e2))
      have hs2 := size_store e2
      have hs1 := E1.out
      have hW2 : Below wr.heap.size wr W2 := b1.trans (below_store e2 (by omega) (Nat.le_refl _))
      have hd2 := hd.below hW2
      have hr2 := range_store e2 (by rw [hc33.out]; exact T1.out)
      obtain ⟨pi, pz⟩ := p
      have k0 : W2.cell? ⟨db, 0, none⟩ = some (.slice (some ⟨lb, 0, none⟩) n n) := hd2.c0
      have k1 : W2.cell? ⟨wr.heap.size, 0, none⟩ = some (.int .i64 pi) := hr2 0 _ rfl
      have k2 : W2.rangeAt wr.heap.size 1 (secC pz) := fun q v hv => by
        have := hr2 (q + 1) v (by simpa [wrC] using hv)
        rwa [show 0 + (q + 1) = 1 + q by omega] at this
      have k3 : W2.there lb (pi * 32) 32 := (hd2.secs pi (by rw [hd2.wf.len]; exact hp1)).2
      have HD2 := Lib.hid hd2
      have HM := Lib.hid hm
      have HB := Lib.hid hW2
      have hcs := hc32.out
      have hu := Try.underlying61
      have hi : (Try.prog.info? 61).map (·.size) = some (secC pz).length := by rw [hcs]; exact size_sec
      have hone := secC_one pz
      have hset := Lib.hid (fun W3 (e : Hid (W3 = W2.setCells lb (pi * 32) (secC pz))) => (hd2.stored HP2.out e).below (below_drewN (Below.refl _ _) 1))
      have hmv := Lib.hid (fun W3 (e : Hid (W3 = W2.setCells lb (pi * 32) (secC pz))) => (((hm.trans (moves_of_below (F := (· = lb)) hW2) (fun _ x => .inl x)).trans (moves_store e) (fun _ x => .inl x)).trans (moves_drewN (· = lb) W3 1) (fun _ x => .inl x)))
      have hpi0 : (0 : Int) ≤ (pi : Int) := by omega
      have hpi1 : (pi : Int) < (n : Int) := by omega
      have hne0 : db ≠ lb := h.ne1
      have hne1 : wr.heap.size ≠ lb := by have := hd.lt1; omega
      generalize wr.heap.size = nb at *
      clear hr2 hd2 hs1 hs2 e2 hm hW2 b1 T1 E1 hd h hR
      generalize secC pz = cs at *
      go_region_held3 (fun w' => w'.cell? ⟨db, 0, none⟩ = some (.slice (some ⟨lb, 0, none⟩) n n) ∧ w'.cell? ⟨nb, 0, none⟩ = some (.int .i64 (pi : Int)) ∧ w'.rangeAt nb 1 cs ∧ w'.there lb (pi * 32) 32) (first | go_keep_ranges | (go_split_ands; refine ⟨(cell_apart hne0).trans (by assumption), (cell_apart hne1).trans (by assumption), World.rangeAt_setCells_apart (by assumption) _ _ _ (.inl hne1), World.there_setCells (by assumption) _ _ _⟩)) (fail)
      rw [setCells_drew]
      have hh := hset.out _ (Lib.hid rfl)
      have hmm := hmv.out _ (Lib.hid rfl)
      clear hset hmv HD2 HM HB k0 k1 k2 k3 hi hone hcs hc32
      change DiskIn (W2.setCells lb (pi * 32) cs).drew _ _ _ _ _ _ at hh
      change Moves _ w (W2.setCells lb (pi * 32) cs).drew at hmm
      generalize (W2.setCells lb (pi * 32) cs).drew = W3 at hh hmm ⊢
      go_wp2
      go_roundw
      case rel =>
        refine ⟨j + 1, by omega, by go_num, ?_, hmm⟩
        rw [hta.out, carry_snoc]
        exact hh
      case measure => simp [intOf]; omega
    · obtain rfl : j = l := by omega
      go_wp2
      go_end0
      exact ⟨rfl, hd, hm⟩
def EmptySays (db lb mb n : Nat) (st : St) (w : World) (e : Ending) (w' : World) : Prop := e = .returned (.tuple #[]) ∧ DiskIn w' db lb mb (.slice none 0 0) n { st with cache := [] } ∧ Moves (fun k => k = db ∨ k = mb) w w'
theorem DiskIn.emptied {w W1 W2 : World} {db lb mb : Nat} {cv : Value} {n : Nat} {st : St} (h : DiskIn w db lb mb cv n st) (e1 : W1 = w.setCell ⟨db, 1, none⟩ (.slice none 0 0)) (h2 : W2.ownsMap Try.prog 3 secR mb 0 (.map [])) (hm : Moves (· = mb) W1 W2) :
    DiskIn W2 db lb mb (.slice none 0 0) n { st with cache := [] } ∧ Moves (fun k => k = db ∨ k = mb) w W2 := by
  have m1 : Moves (· = db) w W1 := by rw [e1]; exact moves_setCell _ _ _ _ rfl
  have hs1 : W1.heap.size = w.heap.size := by rw [e1]; simp
  have hd : W2.heap[db]? = W1.heap[db]? := hm.block db (by rw [hs1]; exact h.lt0) h.ne2
  have hl : W2.heap[lb]? = w.heap[lb]? := (hm.block lb (by rw [hs1]; exact h.lt1) h.ne3).trans (m1.block lb h.lt1 (Ne.symm h.ne1))
  have k1 : W1.cell? ⟨db, 1, none⟩ = some (.slice none 0 0) := by rw [e1]; exact World.cell?_setCell_same _ _ _ h.c1
  have k0 : W1.cell? ⟨db, 0, none⟩ = w.cell? ⟨db, 0, none⟩ := by rw [e1]; exact World.cell?_setCell_other _ _ _ _ (by simp)
  have k2 : W1.cell? ⟨db, 2, none⟩ = w.cell? ⟨db, 2, none⟩ := by rw [e1]; exact World.cell?_setCell_other _ _ _ _ (by simp)
  have kf : W1.frozen? ⟨db, 1, none⟩ = w.frozen? ⟨db, 1, none⟩ := by rw [e1]; exact World.frozen?_setCell _ _ _ _
  refine ⟨?_, (m1.mono (fun _ e => .inl e)).trans hm (fun _ e => .inl (.inr e))⟩
  exact { c0 := ((World.cell?_of_block (a := ⟨db, 0, none⟩) hd).trans k0).trans h.c0, c1 := (World.cell?_of_block (a := ⟨db, 1, none⟩) hd).trans k1, c2 := ((World.cell?_of_block (a := ⟨db, 2, none⟩) hd).trans k2).trans h.c2, fz := ((World.frozen?_of_block (a := ⟨db, 1, none⟩) hd).trans kf).trans h.fz
          secs := h.secs.kept hl, row := World.ownsRow_nil _ _ _ _, map := h2, wf := h.wf.empty, n1 := h.n1, n2 := h.n2, lt0 := Nat.lt_of_lt_of_le h.lt0 (by have := hm.size; omega), lt1 := Nat.lt_of_lt_of_le h.lt1 (by have := hm.size; omega)
          ne1 := h.ne1, ne2 := h.ne2, ne3 := h.ne3, ne4 := by simp [Value.ownBlock], ne5 := by simp [Value.ownBlock], ne6 := by simp [Value.ownBlock] }
set_option maxRecDepth 100000 in
set_option maxHeartbeats 1000000 in
theorem empty_any (db lb mb : Nat) (cv : Value) (n : Nat) (st : St) (w : World) (h : DiskIn w db lb mb cv n st) :
    Calls Try.prog 31 #[.pointer (some ⟨db, 0, none⟩)] w (EmptySays db lb mb n st w) := by
  have c1 := h.c1
  have c2 := h.c2
  have fz := h.fz
  have hmap := Lib.hid (h.map.setCell (a := ⟨db, 1, none⟩) (Ne.symm h.ne2) (.slice none 0 0))
  go_enter Try.func31, Try.ntmps31
  go_wp2_with (first | (refine wpList_clear_own rfl _ 55 rfl 3 61 Try.underlying55 secR mb _ _ rfl hmap.out ?_; intro W2 o2 m2; have H := Lib.hid (h.emptied rfl o2 m2)))
  go_end0
  exact ⟨rfl, H.out⟩
end Go.Proofs.Ytckkgcogkcljeaa

/- The document's own log (concordatref05) in memory: RLogAt; Free, Force; at. The document's own Join: the bytes of records, for every list of records. What the landed calls More and Sum of layer 2 answer, for every input. (for the stages above layer 2) What the library's calls answer that layer 2 uses: bytes.Equal, bytes.Clone, slices.Grow of nil, slices.Concat of two. (for the stages above layer 2) What layer 2's landed calls answer, for every input: the bundle SumOK that the statements' walks take. (for the stages above layer 2) wal, small functions: numberOf, readNumber, placeOf, sectorsFor; slices.Concat of many. -/
import Derived.Test.YtdmkkfpbgpijjaaGreatWbi
import Derived.Test.YtdmkkfpbgpijjaaGreatWbk
import Derived.Test.YtdmkkfpbgpijjaaGreatWbe
import Derived.Test.YtdmkkfpbgpijjaaGreatWao
import Derived.Test.YtdmkkfpbgpijjaaGreatWam
import Derived.Test.YtdmkkfpbgpijjaaGreatWbh
import Derived.Test.YtdmkkfpbgpijjaaGreatWaj
import Derived.Lib.AppendZeros
import Derived.Lib.SliceRun
import Derived.Lib.Bytes
import Derived.Laws.BytesArg
import Derived.Deep.RegionHeld3
import Derived.Test.YtdmkkfpbgpijjaaGreatWbf
namespace Go.Proofs.YtdmkkfpbgpijjaaGreat
open Go.RowKit Go.Deep
set_option linter.unusedVariables false

/-- The log's own block. -/
structure RLogIn (w : World) (gb rb : Nat) (lg : LogD) : Prop where
  c0 : w.cell? ⟨gb, 0, none⟩ = some (.pointer (some ⟨rb, 0, none⟩))
  c1 : w.cell? ⟨gb, 1, none⟩ = some (.int .i64 (lg.next : Int))
  c2 : w.cell? ⟨gb, 2, none⟩ = some (.int .i64 (lg.first : Int))
  c3 : w.cell? ⟨gb, 3, none⟩ = some (.int .i64 (lg.sure : Int))
  fz : ∀ i, w.frozen? ⟨gb, i, none⟩ = false
theorem RLogIn.lt {w : World} {gb rb : Nat} {lg : LogD} (h : RLogIn w gb rb lg) : gb < w.heap.size := World.block_lt_of_cell? w _ h.c0
theorem RLogIn.kept {w w' : World} {gb rb : Nat} {lg : LogD} (h : RLogIn w gb rb lg) (hb : w'.heap[gb]? = w.heap[gb]?) : RLogIn w' gb rb lg :=
  ⟨(World.cell?_of_block (a := ⟨gb, 0, none⟩) hb).trans h.c0, (World.cell?_of_block (a := ⟨gb, 1, none⟩) hb).trans h.c1, (World.cell?_of_block (a := ⟨gb, 2, none⟩) hb).trans h.c2, (World.cell?_of_block (a := ⟨gb, 3, none⟩) hb).trans h.c3, fun i => (World.frozen?_of_block (a := ⟨gb, i, none⟩) hb).trans (h.fz i)⟩
theorem RLogIn.below {w w' : World} {gb rb : Nat} {lg : LogD} (h : RLogIn w gb rb lg) (hb : Below w.heap.size w w') : RLogIn w' gb rb lg := h.kept (hb.block _ h.lt)
/-- The log and its disk, apart. -/
structure RLogAt (w : World) (G : Nat → Prop) (gb rb N : Nat) (st : St) (lg : LogD) : Prop where
  log : RLogIn w gb rb lg
  disk : RefAt w G rb N st
  apart : ¬ G gb
theorem RLogAt.below {w w' : World} {G : Nat → Prop} {gb rb N : Nat} {st : St} {lg : LogD} (h : RLogAt w G gb rb N st lg) (hb : Below w.heap.size w w') : RLogAt w' G gb rb N st lg := ⟨h.log.below hb, h.disk.below hb, h.apart⟩
/-- How many sectors the disk has, as the log sees it. -/
theorem safe_cell {w : World} {G : Nat → Prop} {rb N : Nat} {st : St} (h : RefAt w G rb N st) : ∃ sb cap, w.cell? ⟨rb, 0, none⟩ = some (.slice (some ⟨sb, 0, none⟩) N cap) := by
  obtain ⟨sv, cv, vs, es, h, _⟩ := h
  obtain ⟨sb, cap, rfl, _⟩ := sv_shape h
  exact ⟨sb, cap, h.r0⟩
set_option maxRecDepth 100000 in
set_option maxHeartbeats 1000000 in
theorem refFree (G : Nat → Prop) (gb rb N : Nat) (st : St) (lg : LogD) (q : Int) (hN : N ≤ 60) (hn : lg.next ≤ 4294967296) (hs : lg.sure ≤ 4294967296) (hq : (N : Int) - lg.next + lg.sure = q) (w : World) (h : RLogAt w G gb rb N st lg) :
    Calls Tryz.prog 22 #[.pointer (some ⟨gb, 0, none⟩)] w fun e w' => e = .returned (.int .i64 q) ∧ Below w.heap.size w w' := by
  obtain ⟨sb, cap, r0⟩ := safe_cell h.disk
  have c0 := h.log.c0
  have c1 := h.log.c1
  have c3 := h.log.c3
  obtain ⟨nx, hnx⟩ : ∃ n, lg.next = n := ⟨_, rfl⟩
  obtain ⟨sr, hsr⟩ : ∃ n, lg.sure = n := ⟨_, rfl⟩
  rw [hnx] at c1 hn hq
  rw [hsr] at c3 hs hq
  clear h hnx hsr
  go_enter Tryz.func22, Tryz.ntmps22
  go_wp2_with fail
  go_region
  go_wp2
  go_ret
  exact ⟨rfl, (Below.refl _ _).drew⟩
def RLogDoes (G : Nat → Prop) (gb rb N : Nat) (st : St) (lg : LogD) (v : Value) (w : World) (e : Ending) (w' : World) : Prop :=
  e = .returned v ∧ RLogAt w' (grow G w w') gb rb N st lg ∧ Moves (fun k => G k ∨ k = gb) w w'
theorem not_grow {G : Nat → Prop} {w w' : World} {gb : Nat} (h : ¬ G gb) (hl : gb < w.heap.size) : ¬ grow G w w' gb := by
  rintro (a | ⟨a, _⟩)
  · exact h a
  · omega
set_option maxRecDepth 100000 in
set_option maxHeartbeats 1000000 in
theorem refForce (G : Nat → Prop) (gb rb N : Nat) (st : St) (lg : LogD) (hc : st.cache.length ≤ 1000) (w : World) (h : RLogAt w G gb rb N st lg) :
    Calls Tryz.prog 13 #[.pointer (some ⟨gb, 0, none⟩)] w (RLogDoes G gb rb N (flushS st) (forL lg) (.tuple #[]) w) := by
  have F1 := rflush_any G rb N st w h.disk hc
  have c0 := h.log.c0
  have hlt := h.log.lt
  have hng := h.apart
  have hin := h.log
  generalize flushS st = st1 at *
  clear h
  go_enter Tryz.func13, Tryz.ntmps13
  go_wp2_with fail
  (with_reducible refine F1.mono ?_)
  rintro e w1 ⟨rfl, hd, hm⟩
  have h1 := hin.kept (hm.block gb hlt hng)
  have d2 := h1.c2
  have d3 := h1.c3
  have d0 := h1.c0
  have f3 := h1.fz 3
  clear c0
  obtain ⟨fi, hfi⟩ : ∃ n, lg.first = n := ⟨_, rfl⟩
  rw [hfi] at d2
  have HFI := Lib.hid hfi
  have HH := Lib.hid h1
  have HD := Lib.hid hd
  have HM := Lib.hid hm
  have HLT := Lib.hid hlt
  have HNG := Lib.hid hng
  clear hfi h1 hd hm hin F1 hlt hng
  go_wp2
  go_end0
  have hin := HH.out
  have hm := HM.out
  have hmc : Moves (fun k => k = gb) w1 (w1.setCell ⟨gb, 3, none⟩ (.int .i64 (fi : Int))) := moves_setCell _ w1 ⟨gb, 3, none⟩ _ rfl
  have hng' : ¬ grow G w w1 gb := not_grow HNG.out HLT.out
  have hd2 : RefAt (w1.setCell ⟨gb, 3, none⟩ (.int .i64 (fi : Int))) (grow G w w1) rb N st1 := HD.out.moves hmc (fun k hk e => hng' (e ▸ hk))
  have hsz : (w1.setCell ⟨gb, 3, none⟩ (.int .i64 (fi : Int))).heap.size = w1.heap.size := by simp
  have hgr : grow G w (w1.setCell ⟨gb, 3, none⟩ (.int .i64 (fi : Int))) = grow G w w1 := by unfold grow; rw [hsz]
  have hfi := HFI.out
  have hc3 := hin.c3
  have hlog : RLogIn (w1.setCell ⟨gb, 3, none⟩ (.int .i64 (fi : Int))) gb rb (forL lg) := by
    obtain ⟨e0, e1, e2, e3, e4⟩ := hin
    refine ⟨?_, ?_, ?_, ?_, fun i => by rw [World.frozen?_setCell]; exact e4 i⟩
    · simp [go_sem, e0]
    · show _ = some (Value.int .i64 (lg.next : Int)); simp [go_sem, e1]
    · show _ = some (Value.int .i64 (lg.first : Int)); simp [go_sem, e2]
    · show _ = some (Value.int .i64 (lg.first : Int)); rw [hfi]; simp [go_sem, hc3]
  refine ⟨rfl, ⟨hlog, by rw [hgr]; exact hd2, by rw [hgr]; exact hng'⟩, ?_⟩
  exact (hm.mono (fun k hk => .inl hk)).trans hmc (fun k hk => .inl (.inr hk))
set_option maxRecDepth 100000 in
set_option maxHeartbeats 2000000 in
theorem refAt_some (G : Nat → Prop) (gb rb N n i : Nat) (st : St) (lg : LogD) (s : Sec) (hn1 : 1 ≤ n) (hn : n ≤ 4294967296) (hi : placeOf N n = i) (hN : N ≤ 60) (h1 : 1 ≤ N) (hb : isBytes (nowAt st i)) (hl : (nowAt st i).length = 32) (hs : readS (nowAt st i) = some s) (hc : st.cache.length ≤ 1000) (w : World) (h : RLogAt w G gb rb N st lg) :
    Calls Tryz.prog 37 #[.pointer (some ⟨gb, 0, none⟩), .int .i64 (n : Int)] w fun e w' => ∃ A c, e = .returned (.tuple #[.int .i64 (s.first : Int), .slice A s.data.length c, .bool s.beg, .bool (decide (s.n = n))]) ∧ Good A c s.data w' ∧ Below w.heap.size w w' ∧ ∀ a, A = some a → w.heap.size ≤ a.block := by
  have hiN : i < N := by rw [← hi]; exact placeOf_lt N n (by omega)
  have F1 : ∀ W, Below w.heap.size w W → Calls Tryz.prog 35 #[.pointer (some ⟨rb, 0, none⟩), .int .i64 (i : Int)] W fun e w' => ∃ A c, e = .returned (.tuple #[.slice A 32 c, .int .i64 0]) ∧ Good A c (nowAt st i) w' ∧ Below W.heap.size W w' := fun W hW => by
    refine (rread_ok G rb N i st (nowAt st i) W (h.disk.below hW) hiN rfl hc).mono ?_
    rintro e w' ⟨A, c, rfl, g, k⟩
    exact ⟨A, c, by rw [hl], g, k⟩
  have F2 := fun A c W g => (refRead A c (nowAt st i) hl hb W g).1 s hs
  obtain ⟨sb, cap, r0⟩ := safe_cell h.disk
  have c0 := h.log.c0
  have him : ((n : Int) - 1) % (N : Int) = (i : Int) := by rw [← hi, show (n : Int) - 1 = ((n - 1 : Nat) : Int) by omega]; exact (Int.natCast_emod _ _).symm
  have hN0 : ((N : Int) == 0) = false := by simp; omega
  have hnz : ¬ (N : Int) = 0 := by omega
  have hp0 : (0 : Int) ≤ (n : Int) - 1 := by omega
  have hp1 : (0 : Int) < (N : Int) := by omega
  have htm : ((n : Int) - 1).tmod (N : Int) = (i : Int) := by rw [Int.tmod_eq_emod_of_nonneg hp0]; exact him
  have hnz2 : ¬ N = 0 := by omega
  have hwr : IntKind.i64.wrap ((n : Int) - 1) = (n : Int) - 1 := IntWalk.i64_in _ (by omega)
  unfold ReadYes at F2
  clear h hs hi hb hl
  generalize nowAt st i = z at *
  go_enter Tryz.func37, Tryz.ntmps37
  have kd : Below w.heap.size w w.drew := (Below.refl _ _).drew
  have hgl : gb < w.heap.size := World.block_lt_of_cell? w _ c0
  have hrl : rb < w.heap.size := World.block_lt_of_cell? w _ r0
  have kS : ∀ W, Below w.heap.size w W → (W.cell? ⟨gb, 0, none⟩ = some (.pointer (some ⟨rb, 0, none⟩)) ∧ W.cell? ⟨rb, 0, none⟩ = some (.slice (some ⟨sb, 0, none⟩) N cap) ∧ Below w.heap.size w W) := fun W hb => ⟨(hb.cell (p := ⟨gb, 0, none⟩) hgl).trans c0, (hb.cell (p := ⟨rb, 0, none⟩) hrl).trans r0, hb⟩
  have KS := Lib.hid kS
  clear kS
  have e1 : decide (s.n = n) = ((s.n : Int) == (n : Int)) := by
    by_cases h : s.n = n
    · simp [h]
    · have : ((s.n : Int) == (n : Int)) = false := by simp; omega
      rw [this]; simp [h]
  rw [e1]
  clear e1
  go_wp2_with fail
  go_region_held3 (fun w' => (w'.cell? ⟨gb, 0, none⟩ = some (.pointer (some ⟨rb, 0, none⟩)) ∧ w'.cell? ⟨rb, 0, none⟩ = some (.slice (some ⟨sb, 0, none⟩) N cap) ∧ Below w.heap.size w w')) (first | assumption | exact KS.out _ kd | exact KS.out _ z1) ((go_at_call 35; (with_reducible refine (F1 _ kd).mono ?_); rintro e w1 ⟨A1, c1, rfl, g1, k1⟩; have z1 : Below w.heap.size w w1 := kd.trans k1))
  clear F1 KS kd c0 r0 hgl hrl
  go_wp2_with fail
  refine (F2 _ _ _ g1).mono ?_
  rintro e w2 ⟨A2, c2, rfl, g2, k2, f2⟩
  have z2 := below_more z1 k2 (Nat.le_refl _)
  have HFR := Lib.hid (fun a e => Nat.le_trans z1.size (f2 a e))
  clear f2
  have HG := Lib.hid g2
  have HZ := Lib.hid z2
  clear F2 g1 g2 k1 k2 z1 z2
  go_wp2
  refine bodyPost_ret (v := .tuple #[.int .i64 (s.first : Int), .slice A2 s.data.length c2, .bool s.beg, .bool ((s.n : Int) == (n : Int))]) ?_ rfl ⟨A2, c2, rfl, HG.out, HZ.out, HFR.out⟩
  simp [results, Tryz.results37, go_sem]
set_option maxRecDepth 100000 in
set_option maxHeartbeats 2000000 in
theorem refAt_none (G : Nat → Prop) (gb rb N n i : Nat) (st : St) (lg : LogD) (hn1 : 1 ≤ n) (hn : n ≤ 4294967296) (hi : placeOf N n = i) (hN : N ≤ 60) (h1 : 1 ≤ N) (hb : isBytes (nowAt st i)) (hl : (nowAt st i).length = 32) (hs : readS (nowAt st i) = none) (hc : st.cache.length ≤ 1000) (w : World) (h : RLogAt w G gb rb N st lg) :
    Calls Tryz.prog 37 #[.pointer (some ⟨gb, 0, none⟩), .int .i64 (n : Int)] w fun e w' => e = .returned (.tuple #[.int .i64 0, .slice none 0 0, .bool false, .bool false]) ∧ Below w.heap.size w w' := by
  have hiN : i < N := by rw [← hi]; exact placeOf_lt N n (by omega)
  have F1 : ∀ W, Below w.heap.size w W → Calls Tryz.prog 35 #[.pointer (some ⟨rb, 0, none⟩), .int .i64 (i : Int)] W fun e w' => ∃ A c, e = .returned (.tuple #[.slice A 32 c, .int .i64 0]) ∧ Good A c (nowAt st i) w' ∧ Below W.heap.size W w' := fun W hW => by
    refine (rread_ok G rb N i st (nowAt st i) W (h.disk.below hW) hiN rfl hc).mono ?_
    rintro e w' ⟨A, c, rfl, g, k⟩
    exact ⟨A, c, by rw [hl], g, k⟩
  have F2 := fun A c W g => (refRead A c (nowAt st i) hl hb W g).2 hs
  obtain ⟨sb, cap, r0⟩ := safe_cell h.disk
  have c0 := h.log.c0
  have him : ((n : Int) - 1) % (N : Int) = (i : Int) := by rw [← hi, show (n : Int) - 1 = ((n - 1 : Nat) : Int) by omega]; exact (Int.natCast_emod _ _).symm
  have hN0 : ((N : Int) == 0) = false := by simp; omega
  have hnz : ¬ (N : Int) = 0 := by omega
  have hp0 : (0 : Int) ≤ (n : Int) - 1 := by omega
  have hp1 : (0 : Int) < (N : Int) := by omega
  have htm : ((n : Int) - 1).tmod (N : Int) = (i : Int) := by rw [Int.tmod_eq_emod_of_nonneg hp0]; exact him
  have hnz2 : ¬ N = 0 := by omega
  have hwr : IntKind.i64.wrap ((n : Int) - 1) = (n : Int) - 1 := IntWalk.i64_in _ (by omega)
  unfold ReadNo at F2
  clear h hs hi hb hl
  generalize nowAt st i = z at *
  go_enter Tryz.func37, Tryz.ntmps37
  have kd : Below w.heap.size w w.drew := (Below.refl _ _).drew
  have hgl : gb < w.heap.size := World.block_lt_of_cell? w _ c0
  have hrl : rb < w.heap.size := World.block_lt_of_cell? w _ r0
  have kS : ∀ W, Below w.heap.size w W → (W.cell? ⟨gb, 0, none⟩ = some (.pointer (some ⟨rb, 0, none⟩)) ∧ W.cell? ⟨rb, 0, none⟩ = some (.slice (some ⟨sb, 0, none⟩) N cap) ∧ Below w.heap.size w W) := fun W hb => ⟨(hb.cell (p := ⟨gb, 0, none⟩) hgl).trans c0, (hb.cell (p := ⟨rb, 0, none⟩) hrl).trans r0, hb⟩
  have KS := Lib.hid kS
  clear kS
  have e1 : ((0 : Int) == (n : Int)) = false := by simp; omega
  go_wp2_with fail
  go_region_held3 (fun w' => (w'.cell? ⟨gb, 0, none⟩ = some (.pointer (some ⟨rb, 0, none⟩)) ∧ w'.cell? ⟨rb, 0, none⟩ = some (.slice (some ⟨sb, 0, none⟩) N cap) ∧ Below w.heap.size w w')) (first | assumption | exact KS.out _ kd | exact KS.out _ z1) ((go_at_call 35; (with_reducible refine (F1 _ kd).mono ?_); rintro e w1 ⟨A1, c1, rfl, g1, k1⟩; have z1 : Below w.heap.size w w1 := kd.trans k1))
  clear F1 KS kd c0 r0 hgl hrl
  go_wp2_with fail
  refine (F2 _ _ _ g1).mono ?_
  rintro e w2 ⟨rfl, k2⟩
  have z2 := below_more z1 k2 (Nat.le_refl _)
  have HZ := Lib.hid z2
  clear F2 g1 k1 k2 z1 z2
  go_wp2
  refine bodyPost_ret (v := .tuple #[.int .i64 0, .slice none 0 0, .bool false, .bool false]) ?_ rfl ⟨rfl, HZ.out⟩
  simp [results, Tryz.results37, go_sem]
end Go.Proofs.YtdmkkfpbgpijjaaGreat
namespace Go.Proofs.YtdmkkfpbgpijjaaGreat
open Go.RowKit Go.Deep
set_option linter.unusedVariables false

set_option maxRecDepth 100000 in
set_option maxHeartbeats 2000000 in
theorem refJoin_any (A : Option Addr) (l c : Nat) (rs : List RecD) (hl : rs.length = l) (hl2 : l ≤ 200) (ok : ∀ r ∈ rs, okR r) (w : World) (g : GoodR A c rs w) :
    Calls Tryz.prog 42 #[.slice A l c] w (JoinSays rs w) := by
  have HL := Lib.hid hl
  go_enter Tryz.func42, Tryz.ntmps42
  go_wp2
  go_loopw [4, 5] (fun v i wr => ∃ k : Nat, k ≤ l ∧ i = .int .i64 k ∧ (∀ r ∈ rs.take k, rightB r = true) ∧ Owns w.heap.size wr v (joinL (rs.take k)) ∧ Below w.heap.size w wr) (fun v i _ => l - (intOf i).toNat)
  case atStart => exact ⟨0, Nat.zero_le _, rfl, (fun r hr => by simp at hr), owns_lit w [], (Below.refl _ _).alloc (Nat.le_refl _) _⟩
  case round =>
    obtain ⟨k, hk, rfl, hall, hown, hbel⟩ := hrel
    by_cases hlt : k < l
    · have hkl : k < rs.length := by omega
      have hxs := List.take_succ_eq_append_getElem hkl
      have hmem : rs[k] ∈ rs := List.getElem_mem hkl
      have okr := ok _ hmem
      obtain ⟨b, off, rfl, hbl, hro⟩ := (g.below hbel).cells k hkl
      have hjl := joinL_le (rs.take k)
      rw [List.length_take] at hjl
      have hjs := Lib.hid (joinL_snoc (rs.take k) rs[k])
      have hal := Lib.hid (fun h => (show ∀ r ∈ rs.take (k + 1), rightB r = true from fun r hr => by
        rw [hxs] at hr
        rcases List.mem_append.1 hr with hr | hr
        · exact hall r hr
        · simp at hr; subst hr; exact h))
      have hno := Lib.hid (fun (h : rightB rs[k] = false) => (show rs.all rightB = false by
        rw [Bool.eq_false_iff]
        intro e
        rw [List.all_eq_true] at e
        rw [e _ hmem] at h
        cases h))
      have HX := Lib.hid hxs
      clear hxs hmem hall
      generalize hr0 : rs[k] = r at *
      clear hr0 hkl
      have q0 : wr.cell? ⟨b, off + k * 11, none⟩ = some (.int .i64 r.kind) := hro 0 _ rfl
      have q1 : wr.cell? ⟨b, off + k * 11 + 1, none⟩ = some (.int .i64 r.tx) := hro 1 _ rfl
      have q2 : wr.cell? ⟨b, off + k * 11 + 2, none⟩ = some (.int .u16 r.mask) := hro 2 _ rfl
      have q3 : wr.cell? ⟨b, off + k * 11 + 3, none⟩ = some (.int .u8 r.k0) := hro 3 _ rfl
      have q4 : wr.cell? ⟨b, off + k * 11 + 4, none⟩ = some (.int .u8 r.k1) := hro 4 _ rfl
      have q5 : wr.cell? ⟨b, off + k * 11 + 5, none⟩ = some (.int .u8 r.k2) := hro 5 _ rfl
      have q6 : wr.cell? ⟨b, off + k * 11 + 6, none⟩ = some (.int .u8 r.k3) := hro 6 _ rfl
      have q7 : wr.cell? ⟨b, off + k * 11 + 7, none⟩ = some (.bool r.oT) := hro 7 _ rfl
      have q8 : wr.cell? ⟨b, off + k * 11 + 8, none⟩ = some (.int .i64 r.oN) := hro 8 _ rfl
      have q9 : wr.cell? ⟨b, off + k * 11 + 9, none⟩ = some (.bool r.nT) := hro 9 _ rfl
      have q10 : wr.cell? ⟨b, off + k * 11 + 10, none⟩ = some (.int .i64 r.nN) := hro 10 _ rfl
      clear hro
      cases hr : rightB r with
      | false =>
        have F1 : ∀ W, Calls Tryz.prog 66 #[.agg #[.int .i64 r.kind, .int .i64 r.tx, .int .u16 r.mask, .int .u8 r.k0, .int .u8 r.k1, .int .u8 r.k2, .int .u8 r.k3, .bool r.oT, .int .i64 r.oN, .bool r.nT, .int .i64 r.nN]] W fun e w' => e = .returned (.tuple #[.slice none 0 0, .bool false]) ∧ Below W.heap.size W w' := fun W => refEnc_no r hr W
        have HN := Lib.hid (hno.out hr)
        clear hno hal
        go_wp2_with fail
        (with_reducible refine (F1 _).mono ?_)
        rintro e w1 ⟨rfl, k1⟩
        go_wp2
        go_ret2
        exact .inr ⟨HN.out, rfl, below_more hbel k1 (Nat.le_refl _)⟩
      | true =>
        have F1 : ∀ W, Calls Tryz.prog 66 #[.agg #[.int .i64 r.kind, .int .i64 r.tx, .int .u16 r.mask, .int .u8 r.k0, .int .u8 r.k1, .int .u8 r.k2, .int .u8 r.k3, .bool r.oT, .int .i64 r.oN, .bool r.nT, .int .i64 r.nN]] W fun e w' => ∃ A2 c2, e = .returned (.tuple #[.slice A2 (encL r).length c2, .bool true]) ∧ Good A2 c2 (encL r) w' ∧ Below W.heap.size W w' := fun W => by
          refine (refEnc_yes r hr okr W).mono ?_
          rintro e w' ⟨v, rfl, o, k⟩
          obtain ⟨A2, c2, rfl, g2⟩ := o.good
          exact ⟨A2, c2, rfl, g2, k⟩
        have hel := (encL_bd r).2
        have HA := Lib.hid (hal.out hr)
        clear hno hal
        obtain ⟨n, hn⟩ : ∃ n, (encL r).length = n := ⟨_, rfl⟩
        rw [hn] at F1 hel
        have HN := Lib.hid hn
        clear hn
        generalize encL r = es at *
        generalize hjj : joinL (rs.take k) = js at *
        have HJ := Lib.hid hjj
        clear hjj
        go_wp2_with fail
        (with_reducible refine (F1 _).mono ?_)
        rintro e w1 ⟨A1, c1, rfl, g1, k1⟩
        have hown1 := hown.below k1
        have hb1 : Below w.heap.size w w1 := below_more hbel k1 (Nat.le_refl _)
        clear F1
        go_wp2_with (at_builtin; refine wpList_appendB rfl _ _ rfl w.heap.size _ js rfl hown1 A1 es n c1 rfl HN.out g1 (by rw [HN.out]; omega) hb1.size w hb1 ?_; intro v' w2 hown2 hb2)
        go_roundw
        case rel => exact ⟨k + 1, by omega, by go_num, HA.out, by rw [HX.out, hjs.out]; exact hown2, hb2⟩
        case measure => simp [intOf]; omega
    · obtain rfl : k = l := by omega
      have e1 : rs.take k = rs := by rw [← HL.out, List.take_length]
      rw [e1] at hall hown
      have HA := Lib.hid (show rs.all rightB = true by rw [List.all_eq_true]; exact hall)
      clear hall e1
      go_wp2
      go_ret2
      exact .inl ⟨HA.out, _, rfl, hown, hbel⟩
end Go.Proofs.YtdmkkfpbgpijjaaGreat
namespace Go.Proofs.YtdmkkfpbgpijjaaGreat
open Go.RowKit Go.Deep
set_option linter.unusedVariables false


theorem xor_i64 (a b : Nat) (ha : a < 33554432) (hb : b < 33554432) : bits .xor .i64 (a : Int) (b : Int) = ((a ^^^ b : Nat) : Int) := by
  have hx : a ^^^ b < 2 ^ 25 := Nat.xor_lt_two_pow (by omega) (by omega)
  have h1 : (BitVec.ofInt 64 (a : Int)).toNat = a := by rw [BitVec.toNat_ofInt]; omega
  have h2 : (BitVec.ofInt 64 (b : Int)).toNat = b := by rw [BitVec.toNat_ofInt]; omega
  show IntKind.i64.wrap ((BitVec.ofInt 64 (a : Int) ^^^ BitVec.ofInt 64 (b : Int)).toNat : Int) = _
  rw [BitVec.toNat_xor, h1, h2]
  simp [IntKind.wrap, IntKind.signed, IntKind.bits]
  omega
theorem bits_and_low (n : Int) : bits .and .i64 n 16777215 = ((low24 n : Nat) : Int) := by
  have e : (BitVec.ofInt 64 n).toNat = (n % 18446744073709551616).toNat := by rw [BitVec.toNat_ofInt]; rfl
  have e2 : (BitVec.ofInt 64 16777215).toNat = 2 ^ 24 - 1 := by decide
  show IntKind.i64.wrap ((BitVec.ofInt 64 n &&& BitVec.ofInt 64 16777215).toNat : Int) = _
  rw [BitVec.toNat_and, e, e2, Nat.and_two_pow_sub_one_eq_mod]
  simp [IntKind.wrap, IntKind.signed, IntKind.bits, low24]
  omega
set_option maxRecDepth 100000 in
set_option maxHeartbeats 1000000 in
theorem moreByte_any (s x q : Nat) (hs : s < 16777216) (hx : x < 256) (hq : Hid (itd 8 (s ^^^ x * 65536) = q)) (w : World) :
    Calls Tryz.prog 119 #[.int .i64 s, .int .u8 x] w fun e w' => e = .returned (.int .i64 (q : Int)) ∧ w = w' := by
  have hp : s ^^^ x * 65536 < 16777216 := xor24 _ _ hs (by omega)
  have hx1 : bits .xor .i64 (s : Int) ((x : Int) * 65536) = ((s ^^^ x * 65536 : Nat) : Int) := by
    rw [← xor_i64 s (x * 65536) (by omega) (by omega)]; rfl
  generalize s ^^^ x * 65536 = p at *
  go_enter Tryz.func119, Tryz.ntmps119
  go_wp2
  clear hx1 hs hx
  go_loop [0, 10] (fun s k => ∃ m r : Nat, m ≤ 8 ∧ k = .int .i64 m ∧ s = .int .i64 r ∧ r < 16777216 ∧ Hid (itd m p = r)) (fun _ k => 8 - (intOf k).toNat)
  case atStart => exact ⟨0, p, by omega, rfl, rfl, hp, Lib.hid (itd_0 p)⟩
  case round =>
    obtain ⟨m, r, hm, rfl, rfl, hrl, R⟩ := hrel
    by_cases hlt8 : m < 8
    · have hn8 := Lib.hid (itd_next m p r R.out)
      by_cases hbig : 16777216 ≤ 2 * r
      · have hbI : (16777215 : Int) < (r : Int) * 2 := by omega
        have hd : dbl r = (2 * r) ^^^ 25578747 := by unfold dbl; rw [if_pos hbig]
        have hdl := dbl_lt r hrl
        rw [hd] at hdl hn8
        have hxr : bits .xor .i64 ((r : Int) * 2) 25578747 = (((2 * r) ^^^ 25578747 : Nat) : Int) := by
          rw [← xor_i64 (2 * r) 25578747 (by omega) (by omega), show ((2 * r : Nat) : Int) = (r : Int) * 2 by omega]; rfl
        clear hd hbig
        generalize (2 * r) ^^^ 25578747 = r2 at *
        go_wp2
        have hdl := Lib.hid hdl
        clear hrl hbI hxr
        go_round
        case rel => first | exact ⟨m + 1, r2, by omega, by go_num, rfl, hdl.out, hn8⟩ | exact ⟨m + 1, by omega, by omega, r2, rfl, hdl.out, hn8⟩
        case measure => simp [intOf]; omega
      · have hd : dbl r = 2 * r := by unfold dbl; rw [if_neg hbig]
        rw [hd] at hn8
        clear hd
        have hbI : ¬ ((16777215 : Int) < (r : Int) * 2) := by omega
        have hbig := Lib.hid hbig
        go_wp2
        clear hrl hbI
        go_round
        case rel => first | exact ⟨m + 1, 2 * r, by omega, by go_num, by go_num, by have := hbig.out; omega, hn8⟩ | exact ⟨m + 1, by omega, by omega, 2 * r, by omega, by have := hbig.out; omega, hn8⟩
        case measure => simp [intOf]; omega
    · obtain rfl : m = 8 := by omega
      obtain rfl : r = q := by rw [← R.out, ← hq.out]
      go_wp2
      go_ret
      exact ⟨rfl, rfl⟩
set_option maxRecDepth 100000 in
set_option maxHeartbeats 2000000 in
theorem more_any (n : Int) (A : Option Addr) (zs : List Int) (c l q0 : Nat) (hll : Hid (zs.length = l)) (hz : isBytes zs) (hl : l ≤ 2100) (hq : Hid (crc (low24 n) (bytesOf zs) = q0)) (w : World) (g : Ints .u8 w.heap.size w A zs) :
    Calls Tryz.prog 109 #[.int .i64 n, .slice A l c] w fun e w' => e = .returned (.int .i64 (q0 : Int)) ∧ w = w' := by
  have hlo := low24_lt n
  have hx1 := bits_and_low n
  generalize low24 n = s0 at *
  go_enter Tryz.func109, Tryz.ntmps109
  go_wp2
  clear hx1
  go_loop [0, 6, 11] (fun s _ i => ∃ j q : Nat, j ≤ l ∧ i = .int .i64 j ∧ s = .int .i64 q ∧ q < 16777216 ∧ Hid (crc s0 (bytesOf (zs.take j)) = q)) (fun _ _ i => l - (intOf i).toNat)
  case atStart => exact ⟨0, s0, by omega, rfl, rfl, hlo, Lib.hid rfl⟩
  case round =>
    obtain ⟨j, q, hj, rfl, rfl, hql, H⟩ := hrel
    by_cases hlt : j < l
    · obtain ⟨b, off, rfl, hb, hc⟩ := g (by have := hll.out; omega)
      have hcj := hc j (by have := hll.out; omega)
      have hzz := hz.at j
      have hnx := Lib.hid (crc_next s0 j q zs (by have := hll.out; omega) H.out)
      clear hc
      generalize zs[j]?.getD 0 = z at *
      obtain ⟨y, rfl⟩ : ∃ y : Nat, z = y := ⟨z.toNat, by omega⟩
      rw [Int.toNat_natCast] at hnx
      have hp : q ^^^ y * 65536 < 16777216 := xor24 _ _ hql (by omega)
      have hq2 : itd 8 (q ^^^ y * 65536) < 16777216 := itd_lt _ _ hp
      have cx := moreByte_any q y (itd 8 (q ^^^ y * 65536)) hql (by omega) (Lib.hid rfl)
      generalize itd 8 (q ^^^ y * 65536) = q2 at *
      obtain ⟨hz1, hz2⟩ := hzz
      clear hp hlo
      go_wp2_with (go_at_call 119; refine (cx _).mono ?_; rintro e w' ⟨rfl, rfl⟩)
      have hql2 := Lib.hid hq2
      clear cx hql hq2
      go_round
      case rel => first | exact ⟨j + 1, q2, by omega, by go_num, rfl, hql2.out, hnx⟩ | exact ⟨j + 1, by omega, by omega, q2, rfl, hql2.out, hnx⟩
      case measure => simp [intOf]; omega
    · obtain rfl : j = l := by omega
      have hq' : q = q0 := by rw [← H.out, ← hq.out, ← hll.out, List.take_length]
      subst hq'
      go_wp2
      go_ret
      exact ⟨rfl, rfl⟩
set_option maxRecDepth 100000 in
set_option maxHeartbeats 1000000 in
theorem sum_any (A : Option Addr) (zs : List Int) (c l q0 : Nat) (hll : zs.length = l) (hz : isBytes zs) (hl : l ≤ 2100) (hq : sumB zs = q0) (w : World) (g : Ints .u8 w.heap.size w A zs) :
    Calls Tryz.prog 96 #[.slice A l c] w fun e w' => e = .returned (.int .i64 (q0 : Int)) ∧ w = w' := by
  have cx := more_any 11994318 A zs c l q0 (Lib.hid hll) hz hl (Lib.hid (by rw [← hq]; rfl)) w g
  clear hll hq
  go_enter Tryz.func96, Tryz.ntmps96
  go_wp2_with (go_at_call 109; refine cx.mono ?_; rintro e w' ⟨rfl, rfl⟩)
  go_ret
  exact ⟨rfl, rfl⟩
set_option maxRecDepth 100000 in
set_option maxHeartbeats 1000000 in
theorem three_any (n : Int) (ts : List Int) (hts : threeL (low24 n) = ts) (w : World) : Calls Tryz.prog 95 #[.int .i64 n] w (GivesB ts w) := by
  go_enter Tryz.func95, Tryz.ntmps95
  go_wp2
  go_ret
  subst hts
  have e1 : n / 65536 % 256 = ((low24 n / 65536 % 256 : Nat) : Int) := by unfold low24; omega
  have e2 : n / 256 % 256 = ((low24 n / 256 % 256 : Nat) : Int) := by unfold low24; omega
  have e3 : n % 256 = ((low24 n % 256 : Nat) : Int) := by unfold low24; omega
  rw [e1, e2, e3]
  exact ⟨_, rfl, World.ownsRow_lit w #[_, _, _] 3 (Nat.le_refl _) (by decide) rfl, (Below.refl _ _).alloc (Nat.le_refl _) _⟩
end Go.Proofs.YtdmkkfpbgpijjaaGreat
namespace Go.Proofs.YtdmkkfpbgpijjaaGreat
open Go.RowKit Go.Deep
set_option linter.unusedVariables false


set_option maxRecDepth 100000 in
set_option maxHeartbeats 1000000 in
theorem grow_nil (n : Nat) (h0 : 0 < n) (hn : n ≤ 10000) (w : World) :
    Calls Tryz.prog 97 #[.slice none 0 0, .int .i64 n] w (GivesB [] w) := by
  obtain ⟨i0, hi, hz0, hz1, hz2⟩ := info_parts info_u8
  have hr := fun ty => Lib.run_append_nil_zeros (P := Tryz.prog) w 39 3 ty 5 i0 (.int .u8 0) .i64 .i64 Tryz.underlying39 Tryz.underlying3 hi hz0 n h0 (by omega) (by omega) (by rw [hz2]; omega)
  have hG := grownCap_ge w n 0 5
  have hG2 := grownCap_le_maxLen w n 0 5 (by unfold maxLen; omega)
  generalize grownCap w n 0 5 = G at *
  have hG63 : G ≤ 9223372036854775807 := by unfold maxLen at hG2; omega
  go_enter Tryz.func97, Tryz.ntmps97
  go_wp2_with (at_builtin; refine Lib.wpList_append_run _ rfl _ _ _ _ rfl _ _ rfl rfl _ _ (hr _) ?_)
  all_goals
    go_ret
    refine ⟨_, rfl, ⟨rfl, .inr ⟨w.heap.size, G, _, rfl, Nat.le_refl _, heap_alloc_new w _, Nat.zero_le _, hG2, ?_, rfl⟩⟩, ((Below.refl _ _).alloc (Nat.le_refl _) _).drew⟩
    simp [size_zeroCells]
    omega
/-- A row of two slices. -/
def TwoAt (B : Nat) (v1 v2 : Value) (w : World) : Prop := w.cell? ⟨B, 0, none⟩ = some v1 ∧ w.cell? ⟨B, 1, none⟩ = some v2 ∧ B < w.heap.size
theorem TwoAt.below {B : Nat} {v1 v2 : Value} {w w' : World} (h : TwoAt B v1 v2 w) (hb : Below w.heap.size w w') : TwoAt B v1 v2 w' :=
  ⟨(hb.cell h.2.2).trans h.1, (hb.cell h.2.2).trans h.2.1, Nat.lt_of_lt_of_le h.2.2 hb.size⟩
set_option maxRecDepth 100000 in
set_option maxHeartbeats 1000000 in
theorem concat_two (B : Nat) (A A' : Option Addr) (xs ys : List Int) (c c' l l' : Nat) (hll : xs.length = l) (hll' : ys.length = l') (h0 : 0 < l + l') (hl : l ≤ 2200) (hl' : l' ≤ 2200) (w : World) (hB : TwoAt B (.slice A l c) (.slice A' l' c') w) (g : Good A c xs w) (g' : Good A' c' ys w) :
    Calls Tryz.prog 80 #[.slice (some ⟨B, 0, none⟩) 2 2] w (GivesB (xs ++ ys) w) := by
  have hb1 := hB.1
  have hb2 := hB.2.1
  go_enter Tryz.func80, Tryz.ntmps80
  go_wp2
  go_loop [3, 5, 11] (fun s _ i => (i = .int .i64 0 ∧ s = .int .i64 0) ∨ (i = .int .i64 1 ∧ s = .int .i64 l) ∨ (i = .int .i64 2 ∧ s = .int .i64 ((l : Int) + l'))) (fun _ _ i => 2 - (intOf i).toNat)
  case atStart => exact .inl ⟨rfl, rfl⟩
  case round =>
    rcases hrel with ⟨rfl, rfl⟩ | ⟨rfl, rfl⟩ | ⟨rfl, rfl⟩
    · go_wp2
      go_round
      case rel => exact .inr (.inl ⟨rfl, rfl⟩)
      case measure => decide
    · go_wp2
      go_round
      case rel => exact .inr (.inr ⟨rfl, rfl⟩)
      case measure => decide
    · have cg := grow_nil (l + l') h0 (by omega) w
      rw [Int.natCast_add] at cg
      go_wp2_with (go_at_call 97; refine cg.mono ?_; rintro e w1 ⟨v, rfl, hown, hbel⟩)
      clear cg hb1 hb2
      go_loopw [6, 8, 27] (fun v _ i wr => ∃ zs, ((i = .int .i64 0 ∧ zs = []) ∨ (i = .int .i64 1 ∧ zs = xs) ∨ (i = .int .i64 2 ∧ zs = xs ++ ys)) ∧ Owns w.heap.size wr v zs ∧ Below w.heap.size w wr) (fun _ _ i _ => 2 - (intOf i).toNat)
      case atStart => exact ⟨[], .inl ⟨rfl, rfl⟩, hown, hbel⟩
      case round =>
        obtain ⟨zs, hk, hown, hbel⟩ := hrel
        have hb1 := (hB.below hbel).1
        have hb2 := (hB.below hbel).2.1
        have g1 := g.below hbel
        have g2 := g'.below hbel
        rcases hk with ⟨rfl, rfl⟩ | ⟨rfl, rfl⟩ | ⟨rfl, rfl⟩
        · go_wp2_with (at_builtin; refine wpList_appendB rfl _ _ rfl w.heap.size _ [] rfl hown _ xs l c rfl hll g1 (by simp; omega) hbel.size w hbel ?_; intro v' w2 hown2 hbel2)
          go_roundw
          case rel => exact ⟨_, .inr (.inl ⟨rfl, rfl⟩), hown2, hbel2⟩
          case measure => decide
        · go_wp2_with (at_builtin; refine wpList_appendB rfl _ _ rfl w.heap.size _ zs rfl hown _ ys l' c' rfl hll' g2 (by omega) hbel.size w hbel ?_; intro v' w2 hown2 hbel2)
          go_roundw
          case rel => exact ⟨_, .inr (.inr ⟨rfl, rfl⟩), hown2, hbel2⟩
          case measure => decide
        · go_wp2
          go_ret
          exact ⟨_, rfl, hown, hbel⟩
end Go.Proofs.YtdmkkfpbgpijjaaGreat
namespace Go.Proofs.YtdmkkfpbgpijjaaGreat
open Go.RowKit Go.Deep
set_option linter.unusedVariables false


theorem three_of (q : Nat) (hq : q < 16777216) (w : World) : Calls Tryz.prog 95 #[.int .i64 (q : Int)] w fun e w' => ∃ A2 k2, e = .returned (.slice A2 3 k2) ∧ Good A2 k2 (threeL q) w' ∧ Below w.heap.size w w' := by
  refine (three_any (q : Int) (threeL q) (by rw [low24_of _ hq]) w).mono ?_
  rintro e w' ⟨v, rfl, hown, hbel⟩
  obtain ⟨A2, k2, rfl, hg⟩ := hown.good
  exact ⟨A2, k2, rfl, hg, hbel⟩
set_option maxRecDepth 100000 in
set_option maxHeartbeats 1000000 in
theorem seal_any (A : Option Addr) (zs ss : List Int) (c l : Nat) (hll : zs.length = l) (hz : isBytes zs) (hl : l ≤ 2100) (hs : sealL zs = ss) (w : World) (g : Good A c zs w) :
    Calls Tryz.prog 79 #[.slice A l c] w (GivesB ss w) := by
  have c1 := sum_any A zs c l (sumB zs) hll hz hl rfl w g.1
  have c2 := three_of (sumB zs) (sumB_lt hz) w
  subst hs
  unfold sealL
  have c3 := fun B A2 k2 W => concat_two B A A2 zs (threeL (sumB zs)) c k2 l 3 hll rfl (by omega) (by omega) (by omega) W
  generalize sumB zs = q at *
  go_enter Tryz.func79, Tryz.ntmps79
  go_wp2_with (first | (go_at_call 96; refine c1.mono ?_; rintro e w' ⟨rfl, rfl⟩) | (go_at_call 95; refine c2.mono ?_; rintro e w1 ⟨A2, k2, rfl, g2, hbel⟩))
  have hT : TwoAt w1.heap.size (.slice A l c) (.slice A2 3 k2) (w1.alloc (.cells #[.slice A l c, .slice A2 3 k2] 39)) := by
    have h := fun i v hi => cell_of_row (w1.alloc (.cells #[.slice A l c, .slice A2 3 k2] 39)) w1.heap.size i v 39 (0, 0) hi
    exact ⟨h 0 _ (heap_alloc_new w1 _), h 1 _ (heap_alloc_new w1 _), by simp⟩
  refine (c3 _ _ _ _ hT ((g.below hbel).alloc _) (g2.alloc _)).mono ?_
  rintro e w2 ⟨v, rfl, hown, hb2⟩
  go_wp2
  go_ret
  have hb3 : Below w.heap.size w (w1.alloc (.cells #[.slice A l c, .slice A2 3 k2] 39)) := hbel.alloc hbel.size _
  refine ⟨v, rfl, ?_, below_more hb3 hb2 (Nat.le_refl _)⟩
  refine ⟨hown.1, ?_⟩
  rcases hown.2 with h | ⟨g, cap, cur, h1, h2, h3⟩
  · exact .inl h
  · exact .inr ⟨g, cap, cur, h1, Nat.le_trans hb3.size h2, h3⟩
structure OpSt (w : World) (zs : List Int) (A : Option Addr) (c : Nat) (w' : World) : Prop where
  b : Below w.heap.size w w'
  z : Good A c zs w'
theorem OpSt.below {w : World} {zs : List Int} {A : Option Addr} {c : Nat} {W W' : World} (h : OpSt w zs A c W) (hb : Below W.heap.size W W') : OpSt w zs A c W' := ⟨below_more h.b hb (Nat.le_refl _), h.z.below hb⟩
theorem OpSt.drew {w : World} {zs : List Int} {A : Option Addr} {c : Nat} {W : World} (h : OpSt w zs A c W) : OpSt w zs A c W.drew := h.below (below_drewN (Below.refl _ _) 1)
end Go.Proofs.YtdmkkfpbgpijjaaGreat
namespace Go.Proofs.YtdmkkfpbgpijjaaGreat
open Go.RowKit Go.Deep
set_option linter.unusedVariables false

set_option maxRecDepth 100000 in
theorem place_any (n N q : Nat) (hn : 1 ≤ n) (hn2 : n ≤ 4294967296) (h1 : 1 ≤ N) (hN : N ≤ 512) (hq : placeOf N n = q) (w : World) : Calls Tryz.prog 58 #[.int .i64 n, .int .i64 N] w fun e w' => e = .returned (.int .i64 (q : Nat)) ∧ w = w' := by
  have e1 : ((n : Int) - 1) % (N : Int) = (q : Int) := by
    rw [← hq]
    unfold placeOf
    rw [show (n : Int) - 1 = ((n - 1 : Nat) : Int) by omega]
    rfl
  have E1 := Lib.hid e1
  clear e1 hq
  go_enter Tryz.func58, Tryz.ntmps58
  go_wp2
  go_ret
  exact ⟨by rw [← E1.out]; rfl, rfl⟩
set_option maxRecDepth 100000 in
theorem sectorsFor_any (A : Option Addr) (l c q : Nat) (hl : l ≤ 10000) (hq : (l + 15) / 16 = q) (w : World) : Calls Tryz.prog 55 #[.slice A l c] w fun e w' => e = .returned (.int .i64 (q : Nat)) ∧ w = w' := by
  have e1 : ((l : Int) + 16 - 1) / 16 = (q : Int) := by omega
  have E1 := Lib.hid e1
  clear e1 hq
  go_enter Tryz.func55, Tryz.ntmps55
  go_wp2
  go_ret
  exact ⟨by rw [← E1.out]; rfl, rfl⟩
def NumGives (n : Nat) (w : World) (e : Ending) (w' : World) : Prop := ∃ A c, e = .returned (.slice A 4 c) ∧ Good A c (bytesL n 4) w' ∧ Below w.heap.size w w'
set_option maxRecDepth 100000 in
theorem numberOf_any (n : Nat) (h : n < 4294967296) (w : World) : Calls Tryz.prog 78 #[.int .i64 n] w (NumGives n w) := by
  have c1 := bytes_list n (by omega) 4 (by omega) (by omega) w
  go_enter Tryz.func78, Tryz.ntmps78
  go_wp2_with fail
  refine c1.mono ?_
  rintro e w' ⟨rfl, hI, _, _, hb⟩
  go_wp2
  go_ret
  exact ⟨_, _, rfl, ⟨hI, by rw [bytesL_length]; omega, fun e => by cases e⟩, hb⟩
set_option maxRecDepth 100000 in
theorem readNumber_any (b off c l q : Nat) (zs : List Int) (hl : zs.length = l) (h4 : 4 ≤ l) (hz : isBytes zs) (hq : fromN (zs.take 4) = q) (w : World) (g : Good (some ⟨b, off, none⟩) c zs w) :
    Calls Tryz.prog 71 #[.slice (some ⟨b, off, none⟩) l c] w fun e w' => e = .returned (.int .i64 (q : Nat)) ∧ Below w.heap.size w w' := by
  have hlt : (zs.take 4).length = 4 := by rw [List.length_take]; omega
  have hq2 : q < 4294967296 := by have := fromN_lt (zs.take 4) (hz.take 4); rw [hlt] at this; omega
  have c1 := from_yes (some ⟨b, off, none⟩) c (zs.take 4) (hz.take 4) (by omega) w (g.take 4).1
  rw [hlt, hq] at c1
  have hc : 4 ≤ c := by have := g.2.1; omega
  have hci : (4 : Int) ≤ (c : Int) := by omega
  clear g hq
  go_enter Tryz.func71, Tryz.ntmps71
  go_wp2_with fail
  refine c1.mono ?_
  rintro e w' ⟨rfl, hb⟩
  go_wp2
  go_ret
  exact ⟨rfl, hb⟩

/-! ### slices.Concat of many -/
structure PartD where
  A : Option Addr
  c : Nat
  zs : List Int
def PartsAt (B : Nat) (ps : List PartD) (w : World) : Prop := B < w.heap.size ∧ ∀ j p, ps[j]? = some p → w.cell? ⟨B, j, none⟩ = some (.slice p.A p.zs.length p.c) ∧ Good p.A p.c p.zs w
theorem PartsAt.below {B : Nat} {ps : List PartD} {w w' : World} (h : PartsAt B ps w) (hb : Below w.heap.size w w') : PartsAt B ps w' :=
  ⟨Nat.lt_of_lt_of_le h.1 hb.size, fun j p hp => ⟨(hb.cell (p := ⟨B, j, none⟩) h.1).trans (h.2 j p hp).1, (h.2 j p hp).2.below hb⟩⟩
def allB (ps : List PartD) : List Int := ps.flatMap (·.zs)
theorem allB_snoc (ps : List PartD) (k : Nat) (h : k < ps.length) : allB (ps.take (k + 1)) = allB (ps.take k) ++ ps[k].zs := by
  unfold allB
  rw [List.take_succ_eq_append_getElem h, List.flatMap_append]
  simp
theorem allB_le (ps : List PartD) (k : Nat) : (allB (ps.take k)).length ≤ (allB ps).length := by
  conv => rhs; rw [← List.take_append_drop k ps]
  unfold allB
  rw [List.flatMap_append, List.length_append]; omega
set_option maxRecDepth 100000 in
set_option maxHeartbeats 1000000 in
theorem concat_many (B : Nat) (ps : List PartD) (m n : Nat) (zs : List Int) (hm : ps.length = m) (hm2 : m ≤ 100) (hzs : allB ps = zs) (hn : zs.length = n) (h0 : 0 < n) (hl : n ≤ 4000) (w : World) (h : PartsAt B ps w) :
    Calls Tryz.prog 80 #[.slice (some ⟨B, 0, none⟩) m m] w (GivesB zs w) := by
  have HM := Lib.hid hm
  have HZ := Lib.hid hzs
  have HN := Lib.hid hn
  have HLE := Lib.hid (fun k => allB_le ps k)
  clear hm hzs hn
  go_enter Tryz.func80, Tryz.ntmps80
  go_wp2
  go_loop [3, 5, 11] (fun s _ i => ∃ k q : Nat, k ≤ m ∧ i = .int .i64 k ∧ s = .int .i64 q ∧ q = (allB (ps.take k)).length) (fun _ _ i => m - (intOf i).toNat)
  case atStart => exact ⟨0, 0, by omega, rfl, rfl, rfl⟩
  case round =>
    obtain ⟨k, q, hk, rfl, rfl, hq⟩ := hrel
    have hqn : q ≤ n := by rw [hq, ← HN.out, ← HZ.out]; exact HLE.out k
    by_cases hlt : k < m
    · have hkl : k < ps.length := by rw [HM.out]; exact hlt
      obtain ⟨hc, _⟩ := h.2 k ps[k] (List.getElem?_eq_getElem hkl)
      have hs := congrArg List.length (allB_snoc ps k hkl)
      rw [List.length_append, ← hq] at hs
      have hle := HLE.out (k + 1)
      rw [hs, HZ.out, HN.out] at hle
      have HS := Lib.hid hs
      have HQ := Lib.hid hq
      clear hs hq
      generalize ps[k] = p at *
      obtain ⟨pA, pc, pz⟩ := p
      obtain ⟨pl, hpl⟩ : ∃ pl, pz.length = pl := ⟨_, rfl⟩
      simp only at *
      rw [hpl] at hc hle
      have HPL := Lib.hid hpl
      clear hpl
      have hlti : (k : Int) < (m : Int) := by omega
      go_wp2
      go_round
      case rel => exact ⟨k + 1, q + pl, by omega, by go_num, by go_num, by rw [HS.out, HPL.out]⟩
      case measure => simp [intOf]; omega
    · obtain rfl : k = m := by omega
      have hqe : q = n := by rw [hq, ← HN.out, ← HZ.out, List.take_of_length_le (by rw [HM.out]; exact Nat.le_refl _)]
      subst hqe
      have cg := grow_nil q h0 (by omega) w
      clear hq
      go_wp2_with (go_at_call 97; refine cg.mono ?_; rintro e w1 ⟨v, rfl, hown, hbel⟩)
      clear cg
      go_loopw [6, 8, 27] (fun v _ i wr => ∃ j : Nat, j ≤ k ∧ i = .int .i64 j ∧ Owns w.heap.size wr v (allB (ps.take j)) ∧ Below w.heap.size w wr) (fun _ _ i _ => k - (intOf i).toNat)
      case atStart => exact ⟨0, by omega, rfl, hown, hbel⟩
      case round =>
        obtain ⟨j, hj, rfl, hown, hbel⟩ := hrel
        by_cases hlt2 : j < k
        · have hkl : j < ps.length := by rw [HM.out]; exact hlt2
          obtain ⟨hc, hg⟩ := (h.below hbel).2 j ps[j] (List.getElem?_eq_getElem hkl)
          have hs := allB_snoc ps j hkl
          have hle := HLE.out (j + 1)
          rw [hs, HZ.out, HN.out, List.length_append] at hle
          have HS := Lib.hid hs
          clear hs
          generalize ps[j] = p at *
          obtain ⟨pA, pc, pz⟩ := p
          obtain ⟨pl, hpl⟩ : ∃ pl, pz.length = pl := ⟨_, rfl⟩
          simp only at *
          rw [hpl] at hc
          have HPL := Lib.hid hpl
          have HLL := Lib.hid hle
          clear hpl hle
          have hlti : (j : Int) < (k : Int) := by omega
          go_wp2_with (at_builtin; refine wpList_appendB rfl _ _ rfl w.heap.size _ (allB (ps.take j)) rfl hown _ pz pl pc rfl HPL.out hg (by have := HLL.out; omega) hbel.size w hbel ?_; intro v' w2 hown2 hbel2)
          go_roundw
          case rel => exact ⟨j + 1, by omega, by go_num, by rw [HS.out]; exact hown2, hbel2⟩
          case measure => simp [intOf]; omega
        · obtain rfl : j = k := by omega
          rw [List.take_of_length_le (by rw [HM.out]; exact Nat.le_refl _), HZ.out] at hown
          go_wp2
          go_ret
          exact ⟨_, rfl, hown, hbel⟩
end Go.Proofs.YtdmkkfpbgpijjaaGreat

/- wal: a log in memory (LI5); Open. wal: Free, Next, First, Sectors, fitting, Force. -/
import Derived.Test.YtdmkkfpbgpijjaaGreatWbp
namespace Go.Proofs.YtdmkkfpbgpijjaaGreat
open Go.RowKit Go.Deep Go.Maps
set_option linter.unusedVariables false

/-- Where a log lies: four cells in a block of its own. -/
structure LI5 (w : World) (F : Nat → Prop) (lb db : Nat) (lg : LogD) : Prop where
  lt : lb < w.heap.size
  here : F lb
  only : ∀ k, F k → k = lb
  c0 : w.cell? ⟨lb, 0, none⟩ = some (.pointer (some ⟨db, 0, none⟩))
  c1 : w.cell? ⟨lb, 1, none⟩ = some (.int .i64 lg.next)
  c2 : w.cell? ⟨lb, 2, none⟩ = some (.int .i64 lg.first)
  c3 : w.cell? ⟨lb, 3, none⟩ = some (.int .i64 lg.sure)
  f1 : w.frozen? ⟨lb, 1, none⟩ = false
  f2 : w.frozen? ⟨lb, 2, none⟩ = false
  f3 : w.frozen? ⟨lb, 3, none⟩ = false
  sf : lg.sure ≤ lg.first
theorem LI5.block {w w' : World} {F : Nat → Prop} {lb db : Nat} {lg : LogD} (h : LI5 w F lb db lg) (hb : w'.heap[lb]? = w.heap[lb]?) (hs : w.heap.size ≤ w'.heap.size) : LI5 w' F lb db lg :=
  ⟨Nat.lt_of_lt_of_le h.lt hs, h.here, h.only, (World.cell?_of_block (a := ⟨lb, 0, none⟩) hb).trans h.c0, (World.cell?_of_block (a := ⟨lb, 1, none⟩) hb).trans h.c1, (World.cell?_of_block (a := ⟨lb, 2, none⟩) hb).trans h.c2, (World.cell?_of_block (a := ⟨lb, 3, none⟩) hb).trans h.c3,
    (World.frozen?_of_block (a := ⟨lb, 1, none⟩) hb).trans h.f1, (World.frozen?_of_block (a := ⟨lb, 2, none⟩) hb).trans h.f2, (World.frozen?_of_block (a := ⟨lb, 3, none⟩) hb).trans h.f3, h.sf⟩
theorem LI5.lts {w : World} {F : Nat → Prop} {lb db : Nat} {lg : LogD} (h : LI5 w F lb db lg) : ∀ k, F k → k < w.heap.size := fun k hk => by rw [h.only k hk]; exact h.lt
theorem LI5.kept {w w' : World} {F G : Nat → Prop} {lb db : Nat} {lg : LogD} (h : LI5 w F lb db lg) (hm : Moves G w w') (hd : ∀ k, F k → ¬ G k) : LI5 w' F lb db lg := h.block (hm.block lb h.lt (hd lb h.here)) hm.size
theorem li5_new (W : World) (db next first sure : Nat) (hsf : sure ≤ first) : LI5 (W.alloc (.cells #[.pointer (some ⟨db, 0, none⟩), .int .i64 next, .int .i64 first, .int .i64 sure] 75)) (· = W.heap.size) W.heap.size db ⟨next, first, sure⟩ := by
  have hc : ∀ j, (W.alloc (.cells #[.pointer (some ⟨db, 0, none⟩), .int .i64 next, .int .i64 first, .int .i64 sure] 75)).cell? ⟨W.heap.size, j, none⟩ = _ := fun j => cell_of_row _ _ j _ 75 (0, 0) (heap_alloc_new W _)
  have hf : ∀ j, (W.alloc (.cells #[.pointer (some ⟨db, 0, none⟩), .int .i64 next, .int .i64 first, .int .i64 sure] 75)).frozen? ⟨W.heap.size, j, none⟩ = false := fun j => by
    have hb := heap_alloc_new W (.cells #[.pointer (some ⟨db, 0, none⟩), .int .i64 next, .int .i64 first, .int .i64 sure] 75)
    generalize W.alloc (.cells #[.pointer (some ⟨db, 0, none⟩), .int .i64 next, .int .i64 first, .int .i64 sure] 75) = V at *
    simp [World.frozen?, hb]
  exact ⟨by simp, rfl, fun k hk => hk, (hc 0).trans rfl, (hc 1).trans rfl, (hc 2).trans rfl, (hc 3).trans rfl, hf 1, hf 2, hf 3, hsf⟩
theorem lastL_ok (ss : List Sec) (h : ∀ s ∈ ss, okS s) : okS (lastL ss) := by
  rcases lastL_from ss with e | e
  · rw [e]; exact zS_ok
  · exact h _ e

def WalOpenSays (ss : List Sec) (db : Nat) (w : World) (e : Ending) (w' : World) : Prop :=
  match openP ss with
  | some (lg, rs) => OpenYes LI5 db lg rs w e w'
  | none => e = .returned (.tuple #[.pointer none, .slice none 0 0, .int .i64 21]) ∧ Below w.heap.size w w'
set_option maxRecDepth 100000 in
set_option maxHeartbeats 2000000 in
theorem open_any (FD : Nat → Prop) (db N : Nat) (st : St) (ss : List Sec) (w : World) (h : DiskAt w FD db N st) (hb : BytesD st) (hss : thereL (nows st) = ss) : Calls Tryz.prog 8 #[.pointer (some ⟨db, 0, none⟩)] w (WalOpenSays ss db w) := by
  obtain ⟨hN1, hN2⟩ := h.n2
  have c1 := sectorsOf_any FD db N st _ w h hb rfl
  have hlen : ss.length = N := by rw [← hss, thereL_len, h.wf.nows_len]
  have hok : ∀ s ∈ ss, okS s := fun s hs => by
    rw [← hss] at hs
    unfold thereL at hs
    obtain ⟨i, hi, rfl⟩ := List.mem_map.1 hs
    rw [List.mem_range, h.wf.nows_len] at hi
    exact there_len _ i (h.wf.now_len hi) (now_bytes hb h.wf i hi)
  unfold SectorsSays at c1
  rw [hss] at c1
  have HOK := Lib.hid hok
  have HLEN := Lib.hid hlen
  clear hok hlen hss h hb
  go_enter Tryz.func8, Tryz.ntmps8
  go_wp2_with fail
  refine c1.mono ?_
  clear c1
  rintro e W1 ⟨b, rfl, hbu, b1⟩
  have c2 := lastOf_any b N ss W1 hbu.good HLEN.out hN2
  unfold LastSays at c2
  have HTO := Lib.hid (lastL_ok ss HOK.out)
  obtain ⟨t, ht⟩ : ∃ t, lastL ss = t := ⟨_, rfl⟩
  rw [ht] at c2 HTO
  obtain ⟨lt, hlt⟩ : ∃ lt, t.data.length = lt := ⟨_, rfl⟩
  rw [hlt] at c2
  have HP0 := Lib.hid (show t.n = 0 → openP ss = some (⟨1, 1, 1⟩, []) from fun h => by unfold openP; rw [ht, if_pos h])
  have HP1 := Lib.hid (show t.n ≠ 0 → (t.first < 1 ∨ t.n < t.first) → openP ss = none from fun h h1 => by unfold openP; rw [ht, if_neg h, if_pos h1])
  have HP2 := Lib.hid (show t.n ≠ 0 → ¬ (t.first < 1 ∨ t.n < t.first) → cntF ss t.first (t.n - t.first + 1) = none → openP ss = none from fun h h1 h2 => by unfold openP; rw [ht, if_neg h, if_neg h1, h2])
  have HP3 := Lib.hid (show t.n ≠ 0 → ¬ (t.first < 1 ∨ t.n < t.first) → ∀ cs, cntF ss t.first (t.n - t.first + 1) = some cs → tellP cs = none → openP ss = none from fun h h1 cs h2 h3 => by unfold openP; rw [ht, if_neg h, if_neg h1, h2]; simp only [h3])
  have HP4 := Lib.hid (show t.n ≠ 0 → ¬ (t.first < 1 ∨ t.n < t.first) → ∀ cs rs, cntF ss t.first (t.n - t.first + 1) = some cs → tellP cs = some rs → openP ss = some (⟨t.n + 1, t.first, t.first⟩, rs) from fun h h1 cs rs h2 h3 => by unfold openP; rw [ht, if_neg h, if_neg h1, h2]; simp only [h3])
  have htn := HTO.out.n
  have htf := HTO.out.first
  clear ht hlt
  go_wp2_with fail
  refine c2.mono ?_
  clear c2
  rintro e W2 ⟨At, ct, rfl, b2⟩
  have hBe := below_more b1 b2 (Nat.le_refl _)
  have hGS := hbu.good.below b2
  clear hbu b1 b2
  by_cases h0 : t.n = 0
  · have h0b : ((t.n : Int) == 0) = true := by simp [h0]
    have H0 := Lib.hid h0
    clear h0
    go_wp2
    go_ret3
    unfold WalOpenSays
    rw [HP0.out H0.out]
    have hli := li5_new (W2.alloc (.cells #[.int .i64 t.n, .int .i64 t.first, .bool t.beg, .slice At lt ct] 72)) db 1 1 1 (Nat.le_refl _)
    rw [World.size_alloc] at hli
    refine ⟨_, _, (· = W2.heap.size + 1), rfl, hli, fun k hk => by have := hBe.size; omega, ownsR_nil _ _, (fun k hk => by cases hk), ?_⟩
    exact (hBe.alloc hBe.size _).alloc (by have := hBe.size; simp; omega) _
  · have h0b : ((t.n : Int) == 0) = false := by simp; exact h0
    have H0 := Lib.hid h0
    clear h0
    have hbx : ∀ j v, (#[Value.int .i64 (t.n : Int), Value.int .i64 (t.first : Int), Value.bool t.beg, Value.slice At lt ct])[j]? = some v → (W2.alloc (.cells #[.int .i64 t.n, .int .i64 t.first, .bool t.beg, .slice At lt ct] 72)).cell? ⟨W2.heap.size, j, none⟩ = some v := fun j v hv => by
      rw [cell_of_row _ _ j _ 72 (0, 0) (heap_alloc_new W2 _)]; exact hv
    have y0 := hbx 0 _ rfl
    have y1 := hbx 1 _ rfl
    have y2 := hbx 2 _ rfl
    have y3 := hbx 3 _ rfl
    clear hbx
    have hsz : (W2.alloc (.cells #[.int .i64 t.n, .int .i64 t.first, .bool t.beg, .slice At lt ct] 72)).heap.size = W2.heap.size + 1 := World.size_alloc _ _
    have hGS1 := hGS.below ((Below.refl _ _).alloc (Nat.le_refl _) (.cells #[.int .i64 t.n, .int .i64 t.first, .bool t.beg, .slice At lt ct] 72))
    have hBe1 := hBe.alloc hBe.size (.cells #[.int .i64 t.n, .int .i64 t.first, .bool t.beg, .slice At lt ct] 72)
    clear hGS hBe
    by_cases h1 : t.first < 1 ∨ t.n < t.first
    · have c3 := fun W => count_out b N t.n t.first lt ct t.beg At W (by omega) (by omega) h1
      have H1 := Lib.hid h1
      clear h1 hsz
      go_wp2_with fail
      refine (c3 _).mono ?_
      rintro e W3 ⟨rfl, b3⟩
      go_wp2
      go_ret3
      unfold WalOpenSays
      rw [HP1.out H0.out H1.out]
      exact ⟨rfl, below_more hBe1 b3 (Nat.le_refl _)⟩
    · have c3 := fun W hW => count_any b N ss t.n t.first lt ct (t.n - t.first + 1) t.beg At W hW HLEN.out hN1 hN2 (by omega) (by omega) htn rfl
      have H1 := Lib.hid h1
      have hf1 : 1 ≤ t.first := by omega
      have HSZ := Lib.hid hsz
      clear h1 hsz
      go_wp2_with fail
      refine (c3 _ hGS1).mono ?_
      clear c3
      rintro e W3 ⟨b3, ⟨v3, xs, hc, rfl, own3, hg3⟩ | ⟨hc, rfl⟩⟩
      · have hxl := cntF_len ss t.first _ _ hc
        rw [List.length_map] at hxl
        have hx5 := cntF_le ss t.first _ _ (by rw [HLEN.out]; omega) hf1 hc
        rw [HLEN.out] at hx5
        have hmem := cntF_mem ss t.first hf1 _ _ hc
        obtain ⟨g, cg, rfl, hcg, G3⟩ := own3.good hg3 (by omega)
        have c4 := recordsOf_any g xs.length cg (xs.map (·.s)) W3 G3 (by simp) (by omega) hcg (fun s hs => (HOK.out s (hmem s hs)).len) (fun s hs => (HOK.out s (hmem s hs)).bytes)
        have HC := Lib.hid hc
        have z0 := (b3.cell (p := ⟨W2.heap.size, 0, none⟩) (by show W2.heap.size < _; rw [HSZ.out]; omega)).trans y0
        have z1 := (b3.cell (p := ⟨W2.heap.size, 1, none⟩) (by show W2.heap.size < _; rw [HSZ.out]; omega)).trans y1
        have hlt3 : W2.heap.size < W3.heap.size := by have := b3.size; rw [HSZ.out] at this; omega
        have hBe3 := below_more hBe1 b3 (Nat.le_refl _)
        clear hc hxl hx5 hmem own3 hg3 G3 y0 y1 y2 y3 b3 hBe1 hGS1
        go_wp2_with fail
        refine c4.mono ?_
        clear c4
        rintro e W4 ⟨b4, ⟨v4, rs, htl, rfl, own4⟩ | ⟨htl, rfl⟩⟩
        · have x0 := (b4.cell (p := ⟨W2.heap.size, 0, none⟩) hlt3).trans z0
          have x1 := (b4.cell (p := ⟨W2.heap.size, 1, none⟩) hlt3).trans z1
          have hBe4 := below_more hBe3 b4 (Nat.le_refl _)
          have o4 := own4.base hBe3.size
          have HTL := Lib.hid htl
          clear z0 z1 b4 own4 htl
          go_wp2
          go_ret3
          unfold WalOpenSays
          rw [HP4.out H0.out H1.out _ _ HC.out HTL.out]
          have hli := li5_new W4 db (t.n + 1) t.first t.first (Nat.le_refl _)
          refine ⟨_, _, (· = W4.heap.size), rfl, hli, fun k hk => by have := hBe4.size; omega, o4.below ((Below.refl _ _).alloc (Nat.le_refl _) _), fun k hk e => by have := (World.ownsRow.lt o4 k hk).2; omega, ?_⟩
          exact hBe4.alloc hBe4.size _
        · have HTL := Lib.hid htl
          clear htl
          go_wp2
          go_ret3
          unfold WalOpenSays
          rw [HP3.out H0.out H1.out _ HC.out HTL.out]
          exact ⟨rfl, below_more hBe3 b4 (Nat.le_refl _)⟩
      · have HC := Lib.hid hc
        clear hc
        go_wp2
        go_ret3
        unfold WalOpenSays
        rw [HP2.out H0.out H1.out HC.out]
        exact ⟨rfl, below_more hBe1 b3 (Nat.le_refl _)⟩
theorem open_yes5 (FD : Nat → Prop) (db N : Nat) (st : St) (lg : LogD) (rs : List RecD) (w : World) (h : DiskAt w FD db N st) (hb : BytesD st) (ht : tells (nows st) = some (lg, rs)) : Calls Tryz.prog 8 #[.pointer (some ⟨db, 0, none⟩)] w (OpenYes LI5 db lg rs w) := by
  rw [tells_openP _ (by rw [h.wf.nows_len]; exact h.n2.1)] at ht
  refine (open_any FD db N st _ w h hb rfl).mono ?_
  intro e w' hs
  unfold WalOpenSays at hs
  rw [ht] at hs
  exact hs
theorem open_no5 (FD : Nat → Prop) (db N : Nat) (st : St) (w : World) (h : DiskAt w FD db N st) (hb : BytesD st) (ht : tells (nows st) = none) : Calls Tryz.prog 8 #[.pointer (some ⟨db, 0, none⟩)] w fun e w' => e = .returned (.tuple #[.pointer none, .slice none 0 0, .int .i64 21]) ∧ Below w.heap.size w w' := by
  rw [tells_openP _ (by rw [h.wf.nows_len]; exact h.n2.1)] at ht
  refine (open_any FD db N st _ w h hb rfl).mono ?_
  intro e w' hs
  unfold WalOpenSays at hs
  rw [ht] at hs
  exact hs
end Go.Proofs.YtdmkkfpbgpijjaaGreat
namespace Go.Proofs.YtdmkkfpbgpijjaaGreat
open Go.RowKit Go.Deep Go.Maps
set_option linter.unusedVariables false

theorem LogOK.small {N : Nat} {lg : LogD} (h : LogOK N lg) : lg.next ≤ 4294967296 ∧ lg.sure ≤ 4294967296 ∧ lg.first ≤ 4294967296 := ⟨h.next, Nat.le_trans h.sure h.next, Nat.le_trans h.first h.next⟩
set_option maxRecDepth 100000 in
set_option maxHeartbeats 1000000 in
theorem free5 (FL FD : Nat → Prop) (lb db N : Nat) (st : St) (lg : LogD) (w : World) (h : LogSt LI5 w FL FD lb db N st lg) : Calls Tryz.prog 21 #[.pointer (some ⟨lb, 0, none⟩)] w fun e w' => e = .returned (.int .i64 ((N : Int) - lg.next + lg.sure)) ∧ Below w.heap.size w w' := by
  have c0 := h.log.c0
  have c1 := h.log.c1
  have c3 := h.log.c3
  obtain ⟨hn1, hn2⟩ := h.disk.n2
  obtain ⟨s1, s2, s3⟩ := h.ok.small
  obtain ⟨next, first, sure⟩ := lg
  simp only at *
  have cS := fun W (hW : Below w.heap.size w W) => sectors_at FD db N st W (h.disk.below hW)
  have e1 : IntKind.i64.wrap ((N : Int) - (next : Int)) = (N : Int) - next := IntWalk.i64_in _ (by omega)
  have e2 : IntKind.i64.wrap ((N : Int) - (next : Int) + (sure : Int)) = (N : Int) - next + sure := IntWalk.i64_in _ (by omega)
  clear h
  go_enter Tryz.func21, Tryz.ntmps21
  go_wp2_with fail
  go_quiet ((go_at_call 53; exact Calls.quiet_of_same ((cS _ (below_drewN (Below.refl _ _) _)).mono (fun e w' h => ⟨h.1, h.2.symm⟩))))
  go_wp2
  go_ret
  exact ⟨rfl, below_drewN (Below.refl _ _) _⟩
theorem LogSt.below5 {w w' : World} {FL FD : Nat → Prop} {lb db N : Nat} {st : St} {lg : LogD} (h : LogSt LI5 w FL FD lb db N st lg) (hb : Below w.heap.size w w') : LogSt LI5 w' FL FD lb db N st lg :=
  ⟨h.log.kept (moves_of_below (F := fun _ => False) hb) (fun _ _ e => e), h.disk.below hb, h.apart, h.ok, h.bytes⟩
set_option maxRecDepth 100000 in
set_option maxHeartbeats 1000000 in
theorem next5 (FL FD : Nat → Prop) (lb db N : Nat) (st : St) (lg : LogD) (w : World) (h : LogSt LI5 w FL FD lb db N st lg) : Calls Tryz.prog 23 #[.pointer (some ⟨lb, 0, none⟩)] w fun e w' => e = .returned (.int .i64 (lg.next : Int)) ∧ Below w.heap.size w w' := by
  have c1 := h.log.c1
  clear h
  go_enter Tryz.func23, Tryz.ntmps23
  go_wp2
  go_ret
  exact ⟨rfl, Below.refl _ _⟩
set_option maxRecDepth 100000 in
set_option maxHeartbeats 1000000 in
theorem first5 (FL FD : Nat → Prop) (lb db N : Nat) (st : St) (lg : LogD) (w : World) (h : LogSt LI5 w FL FD lb db N st lg) : Calls Tryz.prog 24 #[.pointer (some ⟨lb, 0, none⟩)] w fun e w' => e = .returned (.int .i64 (lg.first : Int)) ∧ Below w.heap.size w w' := by
  have c1 := h.log.c2
  clear h
  go_enter Tryz.func24, Tryz.ntmps24
  go_wp2
  go_ret
  exact ⟨rfl, Below.refl _ _⟩
set_option maxRecDepth 100000 in
set_option maxHeartbeats 1000000 in
theorem sectors5 (A : Option Addr) (l c : Nat) (rs : List RecD) (w : World) (hl : rs.length = l) (hl2 : l ≤ 200) (ok : ∀ r ∈ rs, okR r) (g : GoodR A c rs w) : Calls Tryz.prog 29 #[.slice A l c] w fun e w' => e = .returned (.int .i64 (if rs.all rightB then (nOf rs : Int) else -1)) ∧ Below w.heap.size w w' := by
  have c1 := join_any A l c rs hl hl2 ok w g
  have hjl := joinL_le rs
  rw [hl] at hjl
  have HQ := Lib.hid (show ((joinL rs).length + 15) / 16 = nOf rs from rfl)
  obtain ⟨q, hq⟩ : ∃ q : Int, q = if rs.all rightB then (nOf rs : Int) else -1 := ⟨_, rfl⟩
  rw [← hq]
  have HH := Lib.hid hq
  clear hq hl ok g
  go_enter Tryz.func29, Tryz.ntmps29
  go_wp2_with fail
  refine c1.mono ?_
  clear c1
  rintro e W1 (⟨hr, v, rfl, own, b1⟩ | ⟨hr, rfl, b1⟩)
  · obtain ⟨A1, c1, rfl, g1⟩ := own.good
    have HR := Lib.hid hr
    obtain ⟨m, hm⟩ : ∃ m, (joinL rs).length = m := ⟨_, rfl⟩
    rw [hm] at HQ hjl ⊢
    have c2 := fun W => sectorsFor_any A1 m c1 (nOf rs) (by omega) HQ.out W
    clear hr hm own
    go_wp2_with (go_at_call 55; refine (c2 _).mono ?_; rintro e w' ⟨rfl, rfl⟩)
    go_ret
    exact ⟨by rw [HH.out, HR.out]; rfl, b1⟩
  · have HR := Lib.hid hr
    clear hr
    go_wp2
    go_ret
    exact ⟨by rw [HH.out, HR.out]; rfl, b1⟩
/-- What fitting answers. -/
def FitSays (rs : List RecD) (q : Int) (w : World) (e : Ending) (w' : World) : Prop :=
  Below w.heap.size w w' ∧ ((q = 0 ∧ ∃ v, e = .returned (.tuple #[v, .int .i64 0]) ∧ Owns w.heap.size w' v (joinL rs)) ∨ (q ≠ 0 ∧ e = .returned (.tuple #[.slice none 0 0, .int .i64 q])))
set_option maxRecDepth 100000 in
set_option maxHeartbeats 1000000 in
theorem fitting_any (FL FD : Nat → Prop) (lb db N : Nat) (st : St) (lg : LogD) (A : Option Addr) (l c more : Nat) (rs : List RecD) (spare q : Int) (w : World) (h : LogSt LI5 w FL FD lb db N st lg) (hl : rs.length = l) (hl2 : l ≤ 200) (ok : ∀ r ∈ rs, okR r) (g : GoodR A c rs w) (hs : isI64 spare) (hmo : more ≤ 1) (hq : fitsE N lg rs more spare = q) :
    Calls Tryz.prog 39 #[.pointer (some ⟨lb, 0, none⟩), .slice A l c, .int .i64 spare, .int .i64 more] w (FitSays rs q w) := by
  have c1 := join_any A l c rs hl hl2 ok w g
  have hjl := joinL_le rs
  rw [hl] at hjl
  have hnq : ((joinL rs).length + 15) / 16 = nOf rs := rfl
  obtain ⟨n, hn⟩ : ∃ n, nOf rs = n := ⟨_, rfl⟩
  rw [hn] at hnq
  have hn5 : n ≤ 400 := by omega
  unfold fitsE at hq
  rw [hn] at hq
  have HNQ := Lib.hid hnq
  have HQ := Lib.hid hq
  have HS := Lib.hid h
  obtain ⟨s1, s2, s3⟩ := h.ok.small
  obtain ⟨hn1, hn2⟩ := h.disk.n2
  obtain ⟨next, first, sure⟩ := lg
  simp only at *
  clear hq hnq hl ok g h hn
  go_enter Tryz.func39, Tryz.ntmps39
  go_wp2_with fail
  refine c1.mono ?_
  clear c1
  rintro e W1 (⟨hr, v, rfl, own, b1⟩ | ⟨hr, rfl, b1⟩)
  · have HR := Lib.hid hr
    clear hr
    have hS1 := HS.out.below5 b1
    have k1 := hS1.log.c1
    have cF := fun W (hW : Below W1.heap.size W1 W) => free5 FL FD lb db N st _ W (hS1.below5 hW)
    by_cases h0 : spare < 0
    · have h0d : decide (spare < 0) = true := by simpa using h0
      go_wp2
      go_ret2
      refine ⟨b1, .inr ?_⟩
      have : q = 11 := by rw [← HQ.out, HR.out, if_neg (by decide), if_pos h0]
      rw [this]
      exact ⟨by decide, rfl⟩
    · have h0d : decide (spare < 0) = false := by simpa using h0
      obtain ⟨A1, c1, rfl, g1⟩ := own.good
      obtain ⟨m, hm⟩ : ∃ m, (joinL rs).length = m := ⟨_, rfl⟩
      rw [hm] at HNQ hjl ⊢
      have c2 := fun W => sectorsFor_any A1 m c1 n (by omega) HNQ.out W
      have HM := Lib.hid hm
      clear hm
      have hsp : spare ≤ 9223372036854775807 := hs.2
      have hmi : (more : Int) ≤ 1 := by omega
      have hfull : ∀ (c1 : (N : Int) - next + sure - (n + more) < spare ∨ (4294967296 : Int) < next + (n + more)), q = 15 := fun hc => by
        rw [← HQ.out, HR.out, if_neg (by decide), if_neg h0, if_pos]
        omega
      have hzero : ∀ (c1 : ¬ ((N : Int) - next + sure - (n + more) < spare)) (c2 : ¬ ((4294967296 : Int) < next + (n + more))), q = 0 := fun hc1 hc2 => by
        rw [← HQ.out, HR.out, if_neg (by decide), if_neg h0, if_neg]
        omega
      have HF := Lib.hid hfull
      have HZ := Lib.hid hzero
      clear hfull hzero
      obtain ⟨fr, hfr⟩ : ∃ fr : Int, fr = (N : Int) - next + sure := ⟨_, rfl⟩
      rw [← hfr] at HF HZ cF
      have hfr1 : -4294967296 ≤ fr := by omega
      have hfr2 : fr ≤ 4294967808 := by omega
      clear hfr
      by_cases hA : fr - (n + more) < spare
      · have hAd : decide (fr - ((n : Int) + (more : Int)) < spare) = true := by simpa using hA
        go_wp2_with (first | (go_at_call 55; refine (c2 _).mono ?_; rintro e w' ⟨rfl, rfl⟩) | (go_at_call 21; refine (cF _ (Below.refl _ _)).mono ?_; rintro e W2 ⟨rfl, b2⟩))
        go_ret2
        refine ⟨below_more b1 b2 (Nat.le_refl _), .inr ?_⟩
        rw [HF.out (.inl hA)]
        exact ⟨by decide, rfl⟩
      · have hAd : decide (fr - ((n : Int) + (more : Int)) < spare) = false := by simpa using hA
        by_cases hB : (4294967296 : Int) < next + (n + more)
        · have hBd : decide ((4294967296 : Int) < (next : Int) + ((n : Int) + (more : Int))) = true := by simpa using hB
          go_wp2_with (first | (go_at_call 55; refine (c2 _).mono ?_; rintro e w' ⟨rfl, rfl⟩) | (go_at_call 21; refine (cF _ (Below.refl _ _)).mono ?_; rintro e W2 ⟨rfl, b2⟩; have k2 := (b2.cell (p := ⟨lb, 1, none⟩) hS1.log.lt).trans k1))
          go_ret2
          refine ⟨below_more b1 b2 (Nat.le_refl _), .inr ?_⟩
          rw [HF.out (.inr hB)]
          exact ⟨by decide, rfl⟩
        · have hBd : decide ((4294967296 : Int) < (next : Int) + ((n : Int) + (more : Int))) = false := by simpa using hB
          go_wp2_with (first | (go_at_call 55; refine (c2 _).mono ?_; rintro e w' ⟨rfl, rfl⟩) | (go_at_call 21; refine (cF _ (Below.refl _ _)).mono ?_; rintro e W2 ⟨rfl, b2⟩; have k2 := (b2.cell (p := ⟨lb, 1, none⟩) hS1.log.lt).trans k1))
          go_ret2
          refine ⟨below_more b1 b2 (Nat.le_refl _), .inl ⟨HZ.out hA hB, _, rfl, ?_⟩⟩
          rw [HM.out] at own
          exact own.below b2
  · have HR := Lib.hid hr
    clear hr
    go_wp2
    go_ret2
    refine ⟨b1, .inr ?_⟩
    have : q = 10 := by rw [← HQ.out, HR.out, if_pos rfl]
    rw [this]
    exact ⟨by decide, rfl⟩
theorem li5_set3 {w : World} {F : Nat → Prop} {lb db : Nat} {lg : LogD} (h : LI5 w F lb db lg) (x : Nat) (hx : x ≤ lg.first) : LI5 (w.setCell ⟨lb, 3, none⟩ (.int .i64 x)) F lb db ⟨lg.next, lg.first, x⟩ :=
  ⟨by simpa using h.lt, h.here, h.only, (World.cell?_setCell_other _ _ _ _ (by simp)).trans h.c0, (World.cell?_setCell_other _ _ _ _ (by simp)).trans h.c1, (World.cell?_setCell_other _ _ _ _ (by simp)).trans h.c2, World.cell?_setCell_same _ _ _ h.c3, by rw [World.frozen?_setCell]; exact h.f1, by rw [World.frozen?_setCell]; exact h.f2, by rw [World.frozen?_setCell]; exact h.f3, hx⟩
theorem li5_set2 {w : World} {F : Nat → Prop} {lb db : Nat} {lg : LogD} (h : LI5 w F lb db lg) (x : Nat) (hx : lg.sure ≤ x) : LI5 (w.setCell ⟨lb, 2, none⟩ (.int .i64 x)) F lb db ⟨lg.next, x, lg.sure⟩ :=
  ⟨by simpa using h.lt, h.here, h.only, (World.cell?_setCell_other _ _ _ _ (by simp)).trans h.c0, (World.cell?_setCell_other _ _ _ _ (by simp)).trans h.c1, World.cell?_setCell_same _ _ _ h.c2, (World.cell?_setCell_other _ _ _ _ (by simp)).trans h.c3, by rw [World.frozen?_setCell]; exact h.f1, by rw [World.frozen?_setCell]; exact h.f2, by rw [World.frozen?_setCell]; exact h.f3, hx⟩
theorem li5_set1 {w : World} {F : Nat → Prop} {lb db : Nat} {lg : LogD} (h : LI5 w F lb db lg) (x : Nat) : LI5 (w.setCell ⟨lb, 1, none⟩ (.int .i64 x)) F lb db ⟨x, lg.first, lg.sure⟩ :=
  ⟨by simpa using h.lt, h.here, h.only, (World.cell?_setCell_other _ _ _ _ (by simp)).trans h.c0, World.cell?_setCell_same _ _ _ h.c1, (World.cell?_setCell_other _ _ _ _ (by simp)).trans h.c2, (World.cell?_setCell_other _ _ _ _ (by simp)).trans h.c3, by rw [World.frozen?_setCell]; exact h.f1, by rw [World.frozen?_setCell]; exact h.f2, by rw [World.frozen?_setCell]; exact h.f3, h.sf⟩
set_option maxRecDepth 100000 in
set_option maxHeartbeats 1000000 in
theorem force5 (FL FD : Nat → Prop) (lb db N : Nat) (st : St) (lg : LogD) (w : World) (h : LogSt LI5 w FL FD lb db N st lg) (hc : st.cache.length ≤ 1000) : Calls Tryz.prog 12 #[.pointer (some ⟨lb, 0, none⟩)] w (LogDoes LI5 FL FD lb db N (flushS st) (forL lg) (.tuple #[]) w) := by
  have c0 := h.log.c0
  have c1 := flush_any FD db N st w h.disk hc
  have HS := Lib.hid h
  clear h
  go_enter Tryz.func12, Tryz.ntmps12
  go_wp2_with fail
  refine c1.mono ?_
  clear c1
  rintro e W1 ⟨rfl, hd, hm⟩
  have hli := HS.out.log.kept hm HS.out.apart
  have HD := Lib.hid hd
  have HM := Lib.hid hm
  have HL := Lib.hid hli
  have k2 := hli.c2
  have k3 := hli.c3
  have kf := hli.f3
  clear hd hm hli c0
  go_wp2
  go_end0
  have hlb : ¬ FD lb := HS.out.apart lb HS.out.log.here
  have hgl : ¬ grow FD w W1 lb := fun hg => hg.elim hlb (fun x => by have := HS.out.log.lt; omega)
  have hm2 : Moves (· = lb) W1 (W1.setCell ⟨lb, 3, none⟩ (.int .i64 lg.first)) := moves_setCell _ _ _ _ rfl
  refine ⟨rfl, (HM.out.mono (fun k hk => Or.inr hk)).trans hm2 (fun k hk => .inl (.inl (by rw [hk]; exact HS.out.log.here))), FL, grow FD w W1, ⟨?_, HD.out.moves hm2 (fun k hk e => hgl (e ▸ hk)), ?_, ?_, bytes_flush HS.out.bytes⟩, fun k hk => .inl hk, fun k hk => hk.elim .inl (fun x => .inr x.1)⟩
  · exact li5_set3 HL.out lg.first (Nat.le_refl _)
  · intro k hk hg
    rw [HS.out.log.only k hk] at hg
    exact hgl hg
  · have o := HS.out.ok
    exact ⟨o.one, o.one, o.first, o.first, o.next, by have := o.room; have := HS.out.log.sf; show lg.next ≤ lg.first + N; omega⟩
end Go.Proofs.YtdmkkfpbgpijjaaGreat

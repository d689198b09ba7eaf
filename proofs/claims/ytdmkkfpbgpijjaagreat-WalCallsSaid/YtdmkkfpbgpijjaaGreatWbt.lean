/- wal: writeRow: records' bytes, sixteen to a sector. The document's own log (concordatref05): Sectors, fits, lay. The document's own log (concordatref05): rows of bytes of the call's own (a list of lists). The document's own disk (concordatref03): Write once more: the cell that holds the sectors stays. -/
import Derived.Test.YtdmkkfpbgpijjaaGreatWbr
import Derived.Test.YtdmkkfpbgpijjaaGreatWbs
import Derived.Test.YtdmkkfpbgpijjaaGreatWbl
import Derived.Test.YtdmkkfpbgpijjaaGreatWbp
import Derived.Test.YtdmkkfpbgpijjaaGreatWan
import Derived.Test.YtdmkkfpbgpijjaaGreatWbk
namespace Go.Proofs.YtdmkkfpbgpijjaaGreat
open Go.RowKit Go.Shelf Go.Deep Go.Maps

attribute [local go_sem] Oper.semAt_some
set_option linter.unusedVariables false

/-- The sectors of the chunks at such places, one behind the other. -/
def secsP (next first : Nat) (b : List Int) (pre : List Nat) : List Sec := pre.zipIdx.map fun p => ⟨next + p.2, first, (b.drop (16 * p.1)).take 16, p.2 == 0⟩
theorem secsP_snoc (next first : Nat) (b : List Int) (pre : List Nat) (x : Nat) : secsP next first b (pre ++ [x]) = secsP next first b pre ++ [⟨next + pre.length, first, (b.drop (16 * x)).take 16, pre.length == 0⟩] := by
  simp [secsP, List.zipIdx_append]
theorem secsP_range (next first : Nat) (b : List Int) (m : Nat) : secsP next first b (List.range m) = (List.range m).map (layAt next first b) := by
  induction m with
  | zero => rfl
  | succ m ih => rw [List.range_succ, secsP_snoc, ih, List.map_append, List.length_range]; rfl
theorem secsP_lay (next first : Nat) (b : List Int) : secsP next first b (List.range (secsN b)) = laySecs next first b := secsP_range next first b _
theorem secsP_len (next first : Nat) (b : List Int) (pre : List Nat) : (secsP next first b pre).length = pre.length := by simp [secsP]
theorem LogIn.kept {w w' : World} {lb db sb mb : Nat} {cv : Value} {N : Nat} {st : St} {lg : LogD} (h : LogIn w lb db sb mb cv N st lg) (hs : w.heap.size ≤ w'.heap.size) (hb : ∀ k, FW lb db sb mb cv k → w'.heap[k]? = w.heap[k]?) : LogIn w' lb db sb mb cv N st lg :=
  ⟨h.log.block (hb lb (.inl rfl)) hs, h.disk.kept hs (hb _ (.inr (.inl rfl))) (hb _ (.inr (.inr (.inl rfl)))) (hb _ (.inr (.inr (.inr (.inl rfl))))) (fun k hk => hb k (.inr (.inr (.inr (.inr hk))))), h.n0, h.n1, h.n2, h.n3⟩
theorem LogIn.row_cells {w : World} {lb db sb mb : Nat} {cv : Value} {N : Nat} {st : St} {lg : LogD} (h : LogIn w lb db sb mb cv N st lg) (k : Nat) (hk : cv.ownBlock = some k) (o : Obj) (ho : w.heap[k]? = some o) : o.isCells = true := by
  rcases h.disk.row.2 with ⟨rfl, _⟩ | ⟨g, cap, cur, rfl, _, hgb, _⟩
  · cases hk
  · cases hk
    rw [hgb] at ho
    cases ho
    rfl
theorem LogIn.lts {w : World} {lb db sb mb : Nat} {cv : Value} {N : Nat} {st : St} {lg : LogD} (h : LogIn w lb db sb mb cv N st lg) : lb < w.heap.size ∧ db < w.heap.size ∧ sb < w.heap.size ∧ mb < w.heap.size := ⟨h.log.lt, h.disk.lt0, h.disk.lt1, h.disk.map.lt⟩
theorem good_movesG {A : Option Addr} {c : Nat} {zs : List Int} {w w' : World} {G : Nat → Prop} (g : Good A c zs w) (hm : Moves G w w') (hne : ∀ a, A = some a → ¬ G a.block) : Good A c zs w' := by
  refine ⟨fun h0 => ?_, g.2⟩
  obtain ⟨b', off, rfl, hlt, hc⟩ := g.1 h0
  exact ⟨b', off, rfl, Nat.lt_of_lt_of_le hlt hm.size, fun j hj => (World.cell?_of_block (a := ⟨b', off + j, none⟩) (hm.block b' hlt (hne _ rfl))).trans (hc j hj)⟩
/-- Between two rounds. -/
structure RowI (w : World) (lb db sb mb : Nat) (cv : Value) (N : Nat) (st : St) (next first sure : Nat) (zs : List Int) (m : Nat) (pre : List (Pl m)) (W : World) : Prop where
  log : ∃ cv', LogIn W lb db sb mb cv' N ⟨st.safe, st.cache ++ puts N (secsP next first zs (pre.map (·.1)))⟩ ⟨next + pre.length, first, sure⟩ ∧ ∀ k, cv'.ownBlock = some k → cv.ownBlock = some k ∨ w.heap.size + 4 ≤ k
  bl : Boxed W w.heap.size 32 (.pointer (some ⟨lb, 0, none⟩))
  bb : Boxed W (w.heap.size + 1) 4 (.bool (pre.length == 0))
  mv : Moves (FW lb db sb mb cv) w W
  sz : w.heap.size + 4 ≤ W.heap.size
theorem rowI_own {w : World} {lb db sb mb : Nat} {cv : Value} {N : Nat} {st : St} {next first sure : Nat} {zs : List Int} {m : Nat} (h : LogIn w lb db sb mb cv N st ⟨next, first, sure⟩) : OwnFrom (w.heap.size + 4) (RowI w lb db sb mb cv N st next first sure zs m) := by
  intro pre W W' row hI hg hr
  obtain ⟨cv', hl, ho⟩ := hI.log
  obtain ⟨l0, l1, l2, l3⟩ := h.lts
  have hrow : ∀ k, k < w.heap.size + 4 → some k ≠ row := fun k hk e => by have := (hr k e.symm).1; omega
  refine ⟨⟨cv', hl.kept hg.size ?_, ho⟩, hI.bl.kept hg (hrow _ (by omega)), hI.bb.kept hg (hrow _ (by omega)), ?_, Nat.le_trans hI.sz hg.size⟩
  · rintro k (e | e | e | e | e)
    · exact hg.block k (by have := hI.sz; omega) (hrow k (by omega))
    · exact hg.block k (by have := hI.sz; omega) (hrow k (by omega))
    · exact hg.block k (by have := hI.sz; omega) (hrow k (by omega))
    · exact hg.block k (by have := hI.sz; omega) (hrow k (by omega))
    · refine hg.block k (hl.disk.row.lt k e).2 (fun er => ?_)
      obtain ⟨_, o, ho1, ho2⟩ := hr k er.symm
      rw [hl.row_cells k e o ho1] at ho2
      cases ho2
  · exact ⟨hg.os.trans hI.mv.os, hg.tape.trans hI.mv.tape, hg.output.trans hI.mv.output, Nat.le_trans hI.mv.size hg.size, fun k hk hn => (hg.block k (Nat.lt_of_lt_of_le hk hI.mv.size) (hrow k (by omega))).trans (hI.mv.block k hk hn)⟩
/-- A round: the sector is written, and the next one doesn't begin. -/
theorem rowI_step {w : World} {lb db sb mb : Nat} {cv cv' cv'' : Value} {N : Nat} {st : St} {next first sure : Nat} {zs : List Int} {m : Nat} {pre : List (Pl m)} {x : Pl m} {W W' : World} (h : LogIn w lb db sb mb cv N st ⟨next, first, sure⟩) (hI : RowI w lb db sb mb cv N st next first sure zs m pre W)
    (hl : LogIn W lb db sb mb cv' N ⟨st.safe, st.cache ++ puts N (secsP next first zs (pre.map (·.1)))⟩ ⟨next + pre.length, first, sure⟩) (ho : ∀ k, cv'.ownBlock = some k → cv.ownBlock = some k ∨ w.heap.size + 4 ≤ k)
    (hl' : LogIn W' lb db sb mb cv'' N (writeS ⟨st.safe, st.cache ++ puts N (secsP next first zs (pre.map (·.1)))⟩ (placeOf N (next + pre.length)) (secL ⟨next + pre.length, first, (zs.drop (16 * x.1)).take 16, pre.length == 0⟩)) ⟨next + pre.length + 1, first, sure⟩) (ho' : ∀ k, cv''.ownBlock = some k → cv'.ownBlock = some k ∨ W.heap.size ≤ k) (hm : Moves (FW lb db sb mb cv') W W') :
    KeepsFrom (w.heap.size + 4) W (W'.setCell ⟨w.heap.size + 1, 0, none⟩ (.bool false)) ∧ KP (w.heap.size + 2) (w.heap.size + 3) W (W'.setCell ⟨w.heap.size + 1, 0, none⟩ (.bool false)) ∧ RowI w lb db sb mb cv N st next first sure zs m (pre ++ [x]) (W'.setCell ⟨w.heap.size + 1, 0, none⟩ (.bool false)) := by
  obtain ⟨l0, l1, l2, l3⟩ := h.lts
  have hsz := hI.sz
  have hm2 : Moves (· = w.heap.size + 1) W' (W'.setCell ⟨w.heap.size + 1, 0, none⟩ (.bool false)) := moves_setCell _ _ _ _ rfl
  have hs2 : (W'.setCell ⟨w.heap.size + 1, 0, none⟩ (.bool false)).heap.size = W'.heap.size := by simp
  have hs3 := hm.size
  have hold : ∀ k, cv.ownBlock = some k → k < w.heap.size := fun k hk => (h.disk.row.lt k hk).2
  have hnf : ∀ k, w.heap.size ≤ k → k < w.heap.size + 4 → ¬ FW lb db sb mb cv' k := by
    rintro k h1 h2 (e | e | e | e | e)
    · omega
    · omega
    · omega
    · omega
    · rcases ho k e with y | y
      · have := hold k y; omega
      · omega
  have hkeep : ∀ k, w.heap.size ≤ k → k < w.heap.size + 4 → k ≠ w.heap.size + 1 → (W'.setCell ⟨w.heap.size + 1, 0, none⟩ (.bool false)).heap[k]? = W.heap[k]? := fun k h1 h2 h3 =>
    (hm2.block k (by omega) h3).trans (hm.block k (by omega) (hnf k h1 h2))
  refine ⟨⟨by omega, fun k o hk hko hno => ?_⟩, ⟨hkeep _ (by omega) (by omega) (by omega), hkeep _ (by omega) (by omega) (by omega)⟩, ⟨⟨cv'', ?_, ?_⟩, ?_, ?_, ?_, by omega⟩⟩
  · have hkl : k < W.heap.size := (Array.getElem?_eq_some_iff.1 hko).1
    rw [hm2.block k (by omega) (by show ¬ k = w.heap.size + 1; omega), hm.block k hkl ?_]
    · exact hko
    · rintro (e | e | e | e | e)
      · omega
      · omega
      · omega
      · omega
      · rw [hl.row_cells k e o hko] at hno; cases hno
  · have e1 : (⟨st.safe, st.cache ++ puts N (secsP next first zs ((pre ++ [x]).map (·.1)))⟩ : St) = writeS ⟨st.safe, st.cache ++ puts N (secsP next first zs (pre.map (·.1)))⟩ (placeOf N (next + pre.length)) (secL ⟨next + pre.length, first, (zs.drop (16 * x.1)).take 16, pre.length == 0⟩) := by
      unfold writeS
      rw [List.map_append, List.map_cons, List.map_nil, secsP_snoc, puts_append, List.length_map]
      simp [puts]
    have e2 : next + (pre ++ [x]).length = next + pre.length + 1 := by rw [List.length_append]; rfl
    rw [e1, e2]
    refine hl'.kept hm2.size ?_
    rintro k (e | e | e | e | e)
    · exact hm2.block k (by omega) (by show ¬ k = w.heap.size + 1; omega)
    · exact hm2.block k (by omega) (by show ¬ k = w.heap.size + 1; omega)
    · exact hm2.block k (by omega) (by show ¬ k = w.heap.size + 1; omega)
    · exact hm2.block k (by omega) (by show ¬ k = w.heap.size + 1; omega)
    · refine hm2.block k (hl'.disk.row.lt k e).2 ?_
      show ¬ k = w.heap.size + 1
      rcases ho' k e with y | y
      · rcases ho k y with z | z
        · have := hold k z; omega
        · omega
      · omega
  · intro k e
    rcases ho' k e with y | y
    · exact ho k y
    · exact .inr (by omega)
  · exact (hkeep _ (by omega) (by omega) (by omega)).trans hI.bl
  · have hb : Boxed W' (w.heap.size + 1) 4 (.bool (pre.length == 0)) := (hm.block _ (by omega) (hnf _ (by omega) (by omega))).trans hI.bb
    have hx : ((pre ++ [x]).length == 0) = false := by simp
    rw [hx]
    exact hb.set _
  · refine (hI.mv.trans (hm.mono (F' := fun k => FW lb db sb mb cv k ∨ w.heap.size ≤ k) ?_) (fun i hi => hi)).trans (hm2.mono (F' := fun k => w.heap.size ≤ k) (fun k hk => by show w.heap.size ≤ k; omega)) (fun i hi => .inr hi)
    rintro k (e | e | e | e | e)
    · exact .inl (.inl e)
    · exact .inl (.inr (.inl e))
    · exact .inl (.inr (.inr (.inl e)))
    · exact .inl (.inr (.inr (.inr (.inl e))))
    · rcases ho k e with y | y
      · exact .inl (.inr (.inr (.inr (.inr y))))
      · exact .inr (by omega)

theorem rowI_box {w : World} {lb db sb mb : Nat} {cv cv' : Value} {N : Nat} {st : St} {lg : LogD} {W W' : World} {v : Value} {t : TypeId} (h : LogIn w lb db sb mb cv N st lg) (hsz : w.heap.size + 4 ≤ W.heap.size) (ho : ∀ k, cv'.ownBlock = some k → cv.ownBlock = some k ∨ w.heap.size + 4 ≤ k) (hb : Boxed W (w.heap.size + 1) t v) (hm : Moves (FW lb db sb mb cv') W W') : Boxed W' (w.heap.size + 1) t v := by
  obtain ⟨l0, l1, l2, l3⟩ := h.lts
  refine (hm.block _ (by omega) ?_).trans hb
  rintro (e | e | e | e | e)
  · omega
  · omega
  · omega
  · omega
  · rcases ho _ e with y | y
    · have := (h.disk.row.lt _ y).2; omega
    · omega

def RowSays (lb db sb mb : Nat) (cv : Value) (N : Nat) (st : St) (lg : LogD) (w : World) (e : Ending) (w' : World) : Prop :=
  e = .returned (.tuple #[]) ∧ (∃ cv', LogIn w' lb db sb mb cv' N st lg ∧ ∀ k, cv'.ownBlock = some k → cv.ownBlock = some k ∨ w.heap.size ≤ k) ∧ Moves (FW lb db sb mb cv) w w'
set_option maxRecDepth 100000 in
set_option maxHeartbeats 2000000 in
theorem writeRow_in (n : Nat) (hn : 4 ≤ n) (lb db sb mb : Nat) (cv : Value) (N : Nat) (st : St) (next first sure : Nat) (A : Option Addr) (len cap : Nat) (zs : List Int) (w : World) (h : LogIn w lb db sb mb cv N st ⟨next, first, sure⟩) (hl : zs.length = len) (hl2 : len ≤ 8000) (hz : isBytes zs) (g : Good A cap zs w) (hA : ∀ a, A = some a → ¬ FW lb db sb mb cv a.block)
    (hn1 : 1 ≤ next) (hnx : next + secsN zs ≤ 4294967296) (hf : first ≤ next) (hc : st.cache.length + secsN zs ≤ 999) :
    CallsIn Fence.wide n Tryz.prog 40 #[.pointer (some ⟨lb, 0, none⟩), .slice A len cap] w (RowSays lb db sb mb cv N ⟨st.safe, st.cache ++ puts N (laySecs next first zs)⟩ ⟨next + secsN zs, first, sure⟩ w) := by
  have hro : Fence.wide.round = none := rfl
  have hn1' : 1 ≤ n := by omega
  obtain ⟨m, hm⟩ : ∃ m, secsN zs = m := ⟨_, rfl⟩
  have hm2 : (len + 15) / 16 = m := by rw [← hm, ← hl]; rfl
  rw [hm] at hnx hc ⊢
  have hcap : len ≤ cap := by have := g.2.1; omega
  have hsome : 0 < len → ∃ b off, A = some ⟨b, off, none⟩ := fun h0 => g.some (by omega)
  refine callsIn_of_wp_marks Tryz.func40 rfl trivial ?_ hro
  simp only [Tryz.ntmps40, List.size_toArray, List.length_cons, List.length_nil, Nat.reduceAdd, Nat.reduceSub, Array.replicate_succ, Array.replicate_zero, List.push_toArray, List.append_toArray, List.nil_append, List.cons_append]
  gi_wp2_with fail
  refine ⟨trivial, ?_⟩
  refine (chunk_in Fence.wide (n - 1) trivial hro _ _ _ _).mono ?_
  rintro e w' ⟨rfl, rfl⟩
  gi_wp2_with fail
  have e0 := Boxed.new w 32 (.pointer (some ⟨lb, 0, none⟩))
  have e1 := Boxed.new (w.alloc (.cells #[.pointer (some ⟨lb, 0, none⟩)] 32)) 4 (.bool true)
  have e2 := Boxed.new ((w.alloc (.cells #[.pointer (some ⟨lb, 0, none⟩)] 32)).alloc (.cells #[.bool true] 4)) 39 (.slice A len cap)
  have e3 := Boxed.new (((w.alloc (.cells #[.pointer (some ⟨lb, 0, none⟩)] 32)).alloc (.cells #[.bool true] 4)).alloc (.cells #[.slice A len cap] 39)) 3 (.int .i64 16)
  simp only [World.size_alloc] at e1 e2 e3
  have d0 := ((e0.alloc (.cells #[.bool true] 4)).alloc (.cells #[.slice A len cap] 39)).alloc (.cells #[.int .i64 16] 3)
  have d1 := (e1.alloc (.cells #[.slice A len cap] 39)).alloc (.cells #[.int .i64 16] 3)
  have d2 := e2.alloc (.cells #[.int .i64 16] 3)
  have hB0 : Below w.heap.size w ((((w.alloc (.cells #[.pointer (some ⟨lb, 0, none⟩)] 32)).alloc (.cells #[.bool true] 4)).alloc (.cells #[.slice A len cap] 39)).alloc (.cells #[.int .i64 16] 3)) :=
    ((((Below.refl _ w).alloc (Nat.le_refl _) _).alloc (by simp) _).alloc (by simp; omega) _).alloc (by simp; omega) _
  have hsz : ((((w.alloc (.cells #[.pointer (some ⟨lb, 0, none⟩)] 32)).alloc (.cells #[.bool true] 4)).alloc (.cells #[.slice A len cap] 39)).alloc (.cells #[.int .i64 16] 3)).heap.size = w.heap.size + 4 := by simp
  clear e0 e1 e2
  generalize ((((w.alloc (.cells #[.pointer (some ⟨lb, 0, none⟩)] 32)).alloc (.cells #[.bool true] 4)).alloc (.cells #[.slice A len cap] 39)).alloc (.cells #[.int .i64 16] 3)) = W0 at *
  have hI0 : RowI w lb db sb mb cv N st next first sure zs m [] W0 := by
    refine ⟨⟨cv, ?_, fun k hk => .inl hk⟩, d0, d1, moves_of_below hB0, by omega⟩
    have := h.below hB0
    simpa [secsP, puts] using this
  refine wpIn_rangeFunc_ownG hro hn1' (gf := 75) (lb := #[.pointer (some ⟨w.heap.size + 1 + 1, 0, none⟩), .pointer (some ⟨w.heap.size + 1 + 1 + 1, 0, none⟩)]) rfl trivial (enters_of Tryz.func75 (by kernel_rfl) rfl)
    (chunk_stops Fence.wide (n - 1) trivial hro (by omega) (w.heap.size + 1 + 1) (w.heap.size + 1 + 1 + 1) cap len m A (by omega) hcap hm2 hsome W0 (by omega) (by omega) d2.cell e3.cell) KP.trans (kp_b (by omega) (by omega)) (Below.refl _ _) (fun _ => rfl)
    (RowI w lb db sb mb cv N st next first sure zs m) (fun _ _ _ => False) (by rw [hsz]; exact rowI_own h) (fun _ _ _ _ _ hs _ _ => hs) hI0
    (fun x => { tmps := #[.pointer (some ⟨lb, 0, none⟩), .slice A len cap, .pointer (some ⟨w.heap.size, 0, none⟩), undef, .pointer (some ⟨w.heap.size + 1, 0, none⟩), chunkV A len x.1, .slice A len cap, .func (.func 75) #[] #[.pointer (some ⟨w.heap.size + 1 + 1, 0, none⟩), .pointer (some ⟨w.heap.size + 1 + 1 + 1, 0, none⟩)], chunkV A len x.1, undef, undef, undef, undef], defers := [] }) ?assign ?body ?done ?stop
  case assign =>
    intro l x W K hK
    generalize chunkV A len x.1 = z at *
    gi_wp2
    exact hK
  case body =>
    rintro l pre x W hI hlt
    obtain ⟨cv', hlog, hown⟩ := hI.log
    have hx := x.2
    have hxl : 16 * x.1 < len := by omega
    obtain ⟨b, off, rfl⟩ := hsome (by omega)
    have gW := good_movesG g hI.mv hA
    have gx : Good (some ⟨b, off + 16 * x.1, none⟩) (min 16 (len - 16 * x.1)) ((zs.drop (16 * x.1)).take 16) W := by
      have := (gW.drop (16 * x.1) (by omega)).take 16
      exact ⟨this.1, by rw [List.length_take, List.length_drop, hl]; exact Nat.le_refl _, fun e => by cases e⟩
    have hlx : ((zs.drop (16 * x.1)).take 16).length = min 16 (len - 16 * x.1) := by rw [List.length_take, List.length_drop, hl]
    have cW := writeSec_any lb db sb mb cv' N _ (next + pre.length) first sure (some ⟨b, off + 16 * x.1, none⟩) (min 16 (len - 16 * x.1)) (min 16 (len - 16 * x.1)) _ (pre.length == 0) W hlog hlx (by omega) ((hz.drop _).take _) gx (by omega) (by omega) (by omega) (by
      show (st.cache ++ puts N (secsP next first zs (pre.map (·.1)))).length ≤ 999
      rw [List.length_append, puts_length, secsP_len, List.length_map]; omega)
    have hstep := Lib.hid (fun (W' : World) (cv'' : Value) a1 a2 a3 => rowI_step (x := x) (W' := W') (cv'' := cv'') h hI hlog hown a1 a2 a3)
    have k0 := hI.bl.cell
    have k1 := hI.bb.cell
    have hbb := Lib.hid hI
    have hsz1 := hI.sz
    unfold chunkV
    simp only [Option.map_some]
    generalize min 16 (len - 16 * x.1) = ee at *
    have hbx := Lib.hid hI.bb
    generalize (pre.length == 0) = pl at *
    clear k1
    have k1 := hbx.out.cell
    have hbox := Lib.hid (fun (W' : World) (hm : Moves (FW lb db sb mb cv') W W') => rowI_box h hsz1 hown hbx.out hm)
    gi_wp2_with fail
    refine ⟨trivial, (fun _ => by omega), ?_⟩
    refine (CallsIn.inRound l (callsIn_wide.2 cW)).mono ?_
    clear cW
    rintro e W' ⟨rfl, ⟨cv'', hl2', ho2'⟩, hm2'⟩
    have hb' := hbox.out W' hm2'
    have k2 := hb'.cell
    have k3 := hb'.frozen
    have hfin := Lib.hid (hstep.out W' cv'' hl2' ho2' hm2')
    clear hl2' ho2' hm2' hb' hbox hstep
    gi_wp2
    rw [hsz]
    exact hfin.out
  case done =>
    rintro D ys W hD hys hI hK
    rw [hsz] at hD
    have hI2 := (rowI_own (zs := zs) (m := m) h).putObj (.deferred none) hI hD hK rfl
    have hyl : ys.length = m := by
      have := congrArg List.length hys
      rwa [List.length_map, List.length_range] at this
    gi_wp2
    refine ⟨by simp, .inl ⟨_, _, rfl, run_takeDeferred hK, ?_⟩⟩
    refine ⟨_, results_none rfl _ _ _, rfl, ?_, hI2.mv⟩
    obtain ⟨cv', hl', ho'⟩ := hI2.log
    rw [hys, hyl, ← hm, secsP_lay] at hl'
    rw [hm] at hl'
    exact ⟨cv', hl', fun k hk => (ho' k hk).elim .inl (fun y => .inr (by omega))⟩
  case stop =>
    rintro D c pre W _ _ h _
    exact h.elim
end Go.Proofs.YtdmkkfpbgpijjaaGreat
namespace Go.Proofs.YtdmkkfpbgpijjaaGreat
open Go.RowKit Go.Deep
set_option linter.unusedVariables false

set_option maxRecDepth 100000 in
set_option maxHeartbeats 1000000 in
theorem refSectors (A : Option Addr) (l c : Nat) (rs : List RecD) (q : Int) (w : World) (hl : rs.length = l) (hl2 : l ≤ 200) (ok : ∀ r ∈ rs, okR r) (g : GoodR A c rs w) (hq : (if rs.all rightB then (nOf rs : Int) else -1) = q) : Calls Tryz.prog 30 #[.slice A l c] w fun e w' => e = .returned (.int .i64 q) ∧ Below w.heap.size w w' := by
  have c1 := refJoin_any A l c rs hl hl2 ok w g
  have hjl := joinL_le rs
  rw [hl] at hjl
  have HQ := Lib.hid (show ((joinL rs).length + 15) / 16 = nOf rs from rfl)
  have HH := Lib.hid hq
  clear hq hl ok g
  go_enter Tryz.func30, Tryz.ntmps30
  go_wp2_with fail
  refine c1.mono ?_
  clear c1
  rintro e W1 (⟨hr, v, rfl, own, b1⟩ | ⟨hr, rfl, b1⟩)
  · obtain ⟨A1, c1, rfl, g1⟩ := own.good
    have HR := Lib.hid hr
    obtain ⟨m, hm⟩ : ∃ m, (joinL rs).length = m := ⟨_, rfl⟩
    rw [hm] at HQ hjl ⊢
    obtain ⟨n, hn⟩ : ∃ n, nOf rs = n := ⟨_, rfl⟩
    rw [hn] at HQ HH
    have e1 : ((m : Int) + 15) / 16 = (n : Int) := by have := HQ.out; omega
    have E1 := Lib.hid e1
    clear hr hm own hn e1
    go_wp2
    go_ret
    exact ⟨by rw [← HH.out, HR.out, if_pos rfl, ← E1.out]; rfl, b1⟩
  · have HR := Lib.hid hr
    clear hr
    go_wp2
    go_ret
    exact ⟨by rw [← HH.out, HR.out]; rfl, b1⟩
set_option maxRecDepth 100000 in
set_option maxHeartbeats 1000000 in
theorem refFits (G : Nat → Prop) (gb rb N : Nat) (st : St) (lg : LogD) (A : Option Addr) (l c more : Nat) (rs : List RecD) (spare q : Int) (w : World) (h : RLogAt w G gb rb N st lg) (hN : N ≤ 60) (ok5 : LogOK N lg) (hl : rs.length = l) (hl2 : l ≤ 200) (ok : ∀ r ∈ rs, okR r) (g : GoodR A c rs w) (hs : isI64 spare) (hmo : more ≤ 1) (hq : fitsE N lg rs more spare = q) :
    Calls Tryz.prog 41 #[.pointer (some ⟨gb, 0, none⟩), .slice A l c, .int .i64 more, .int .i64 spare] w fun e w' => e = .returned (.int .i64 q) ∧ Below w.heap.size w w' := by
  obtain ⟨sq, hsq⟩ : ∃ sq : Int, (if rs.all rightB then (nOf rs : Int) else -1) = sq := ⟨_, rfl⟩
  have c1 := refSectors A l c rs sq w hl hl2 ok g hsq
  have hjl := joinL_le rs
  rw [hl] at hjl
  have hnq : ((joinL rs).length + 15) / 16 = nOf rs := rfl
  obtain ⟨n, hn⟩ : ∃ n, nOf rs = n := ⟨_, rfl⟩
  rw [hn] at hnq hsq
  have hn5 : n ≤ 400 := by omega
  unfold fitsE at hq
  rw [hn] at hq
  have HQ := Lib.hid hq
  have HS := Lib.hid h
  have HSQ := Lib.hid hsq
  obtain ⟨s1, s2, s3⟩ := ok5.small
  have hsure := ok5.sure
  obtain ⟨next, first, sure⟩ := lg
  have hk1 := h.log.c1
  have hglt := h.log.lt
  simp only at *
  obtain ⟨fr, hfr⟩ : ∃ fr : Int, (N : Int) - next + sure = fr := ⟨_, rfl⟩
  have cF := fun W (hW : Below w.heap.size w W) => refFree G gb rb N st ⟨next, first, sure⟩ fr hN s1 s2 hfr W (h.below hW)
  have hfr1 : -4294967296 ≤ fr := by omega
  have hfr2 : fr ≤ 60 := by omega
  rw [hfr] at HQ
  clear hq hnq hl ok g h hn hfr hsq ok5
  cases hr : rs.all rightB
  · have : sq = -1 := by rw [← HSQ.out, hr]; rfl
    subst this
    have HR := Lib.hid hr
    clear hr
    go_enter Tryz.func41, Tryz.ntmps41
    go_wp2_with fail
    refine c1.mono ?_
    rintro e W1 ⟨rfl, b1⟩
    go_wp2
    go_ret
    have : q = 10 := by rw [← HQ.out, HR.out, if_pos rfl]
    rw [this]
    exact ⟨rfl, b1⟩
  · have : sq = (n : Int) := by rw [← HSQ.out, hr]; rfl
    subst this
    have HR := Lib.hid hr
    clear hr
    have hnn : ¬ ((n : Int) < 0) := by omega
    have hnd : decide ((n : Int) < 0) = false := by simp
    have hmi : (more : Int) ≤ 1 := by omega
    go_enter Tryz.func41, Tryz.ntmps41
    go_wp2_with fail
    refine c1.mono ?_
    clear c1
    rintro e W1 ⟨rfl, b1⟩
    have k1 := (b1.cell (p := ⟨gb, 1, none⟩) hglt).trans hk1
    by_cases h0 : spare < 0
    · have h0d : decide (spare < 0) = true := by simpa using h0
      go_wp2
      go_ret
      have : q = 11 := by rw [← HQ.out, HR.out, if_neg (by decide), if_pos h0]
      rw [this]
      exact ⟨rfl, b1⟩
    · have h0d : decide (spare < 0) = false := by simpa using h0
      have hfull : ∀ (c1 : fr - n - more < spare ∨ (4294967296 : Int) < next + n + more), q = 15 := fun hc => by
        rw [← HQ.out, HR.out, if_neg (by decide), if_neg h0, if_pos]
        omega
      have hzero : ∀ (c1 : ¬ (fr - n - more < spare)) (c2 : ¬ ((4294967296 : Int) < next + n + more)), q = 0 := fun hc1 hc2 => by
        rw [← HQ.out, HR.out, if_neg (by decide), if_neg h0, if_neg]
        omega
      have HF := Lib.hid hfull
      have HZ := Lib.hid hzero
      clear hfull hzero
      by_cases hK : 1000 < spare
      · have hKd : decide ((1000 : Int) < spare) = true := by simpa using hK
        go_wp2
        go_ret
        rw [HF.out (.inl (by omega))]
        exact ⟨rfl, b1⟩
      · have hKd : decide ((1000 : Int) < spare) = false := by simpa using hK
        by_cases hA : fr - n - more < spare
        · have hAd : decide (fr - (n : Int) - (more : Int) < spare) = true := by simpa using hA
          go_wp2_with (go_at_call 22; refine (cF _ b1).mono ?_; rintro e W2 ⟨rfl, b2⟩)
          go_ret
          rw [HF.out (.inl hA)]
          exact ⟨rfl, below_more b1 b2 (Nat.le_refl _)⟩
        · have hAd : decide (fr - (n : Int) - (more : Int) < spare) = false := by simpa using hA
          by_cases hB : (4294967296 : Int) < next + n + more
          · have hBd : decide ((4294967296 : Int) < (next : Int) + (n : Int) + (more : Int)) = true := by simpa using hB
            go_wp2_with (go_at_call 22; refine (cF _ b1).mono ?_; rintro e W2 ⟨rfl, b2⟩; have k2 := (b2.cell (p := ⟨gb, 1, none⟩) (Nat.lt_of_lt_of_le hglt b1.size)).trans k1)
            go_ret
            rw [HF.out (.inr hB)]
            exact ⟨rfl, below_more b1 b2 (Nat.le_refl _)⟩
          · have hBd : decide ((4294967296 : Int) < (next : Int) + (n : Int) + (more : Int)) = false := by simpa using hB
            go_wp2_with (go_at_call 22; refine (cF _ b1).mono ?_; rintro e W2 ⟨rfl, b2⟩; have k2 := (b2.cell (p := ⟨gb, 1, none⟩) (Nat.lt_of_lt_of_le hglt b1.size)).trans k1)
            go_ret
            rw [HZ.out hA hB]
            exact ⟨rfl, below_more b1 b2 (Nat.le_refl _)⟩
end Go.Proofs.YtdmkkfpbgpijjaaGreat
namespace Go.Proofs.YtdmkkfpbgpijjaaGreat
open Go.RowKit Go.Deep
set_option linter.unusedVariables false

/-- A list of rows of bytes: the outer row holds the slices us, each of them holds its bytes, and the last one shares its block with none. -/
structure RowsT (B : Nat) (W : World) (v : Value) (us : List Value) (rows : List (List Int)) : Prop where
  out : W.ownsRow B 39 1 v us.length us
  len : us.length = rows.length
  each : ∀ (i : Nat) (u : Value) (zs : List Int), us[i]? = some u → rows[i]? = some zs → Owns B W u zs
  apart : ∀ (i : Nat) (u t : Value), i + 1 < us.length → us[i]? = some u → us[us.length - 1]? = some t → u.ownBlock = none ∨ u.ownBlock ≠ t.ownBlock
theorem RowsT.kept {B : Nat} {W W' : World} {v : Value} {us : List Value} {rows : List (List Int)} (h : RowsT B W v us rows) (hb : Below W.heap.size W W') : RowsT B W' v us rows :=
  ⟨row_kept h.out (fun k hk => hb.block k (h.out.lt k hk).2), h.len, fun i u zs hu hz => (h.each i u zs hu hz).below hb, h.apart⟩
theorem row_types {W : World} {B B' : Nat} {e e' : TypeId} {s s' n n' : Nat} {v v' : Value} {xs xs' : List Value} (h : W.ownsRow B e s v n xs) (h' : W.ownsRow B' e' s' v' n' xs') (hne : e ≠ e') {k : Nat} (hk : v.ownBlock = some k) (hk' : v'.ownBlock = some k) : False := by
  rcases rows_ne h h' hne with y | y
  · rw [hk] at y; cases y
  · rw [hk, hk'] at y; exact y rfl
set_option maxRecDepth 100000 in
theorem info_bytes : (Tryz.prog.info? 39).map (fun i => (i.zero, i.size, i.bytes)) = some (some (.slice none 0 0), 1, 24) := by kernel_rfl
theorem at_lt {α : Type} {l : List α} {i : Nat} {x : α} (h : l[i]? = some x) : i < l.length := by
  rcases Nat.lt_or_ge i l.length with y | y
  · exact y
  · rw [List.getElem?_eq_none y] at h; cases h
/-- The last row is written on: its slice is another one, in the same cell. -/
theorem RowsT.last {B : Nat} {W W1 : World} {g cap m : Nat} {us : List Value} {rows : List (List Int)} {n : Nat} {u u2 : Value} {zs zs2 : List Int} (h : RowsT B W (.slice (some ⟨g, 0, none⟩) m cap) us rows) (hm : us.length = m) (hn : m = n + 1) (hu : us[n]? = some u) (hz : rows[n]? = some zs)
    (hgr : W.grownBy W1 u.ownBlock) (ho2 : Owns B W1 u2 zs2) (hat : ∀ k, u2.ownBlock = some k → u.ownBlock = some k ∨ W.heap.size ≤ k) :
    RowsT B (W1.setCell ⟨g, n, none⟩ u2) (.slice (some ⟨g, 0, none⟩) m cap) (us.set n u2) (rows.set n zs2) := by
  have hou := h.each n u zs hu hz
  have hout := h.out
  rw [hm] at hout
  have hgl := (hout.lt g rfl).2
  have hgu : some g ≠ u.ownBlock := fun e => row_types hout hou (by decide) rfl e.symm
  have hg1 : W1.heap[g]? = W.heap[g]? := hgr.block g hgl hgu
  have hout1 : W1.ownsRow B 39 1 (.slice (some ⟨g, 0, none⟩) m cap) m us := row_kept hout (fun k hk => by cases hk; exact hg1)
  have hst := hout1.stored n u2
  have hkeep : ∀ {v : Value} {ys : List Int}, Owns B W1 v ys → Owns B (W1.setCell ⟨g, n, none⟩ u2) v ys := fun {v ys} hv => row_kept hv (fun k hk => hst.2.block k (hv.lt k hk).2 (fun e => by
    injection e with e
    exact row_types hout1 hv (by decide) (k := k) (by rw [e]; rfl) hk))
  refine ⟨?_, by simpa using h.len, fun i v ys hv hy => ?_, fun i v t hi hv ht => ?_⟩
  · rw [List.length_set, hm]; exact hst.1
  · by_cases e : n = i
    · subst e
      rw [List.getElem?_set_self (by omega)] at hv
      injection hv with hv
      have hr : n < rows.length := by rw [← h.len]; omega
      rw [List.getElem?_set_self hr] at hy
      injection hy with hy
      subst hv hy
      exact hkeep ho2
    · rw [List.getElem?_set_ne e] at hv hy
      have hil := at_lt hv
      have hv0 := h.each i v ys hv hy
      refine hkeep (row_kept hv0 (fun k hk => hgr.block k (hv0.lt k hk).2 (fun e2 => ?_)))
      rcases h.apart i v u (by omega) hv (by rw [hm, hn]; exact hu) with y | y
      · rw [y] at hk; cases hk
      · exact y (by rw [hk]; exact e2)
  · rw [List.length_set] at hi ht
    rw [List.getElem?_set_ne (by omega)] at hv
    rw [show us.length - 1 = n by omega, List.getElem?_set_self (by omega)] at ht
    injection ht with ht
    subst ht
    cases hk : v.ownBlock with
    | none => exact .inl rfl
    | some k =>
      right
      intro e
      have hil := at_lt hv
      obtain ⟨ys, hy⟩ : ∃ ys, rows[i]? = some ys := ⟨rows[i]'(by rw [← h.len]; omega), List.getElem?_eq_getElem _⟩
      have hv0 := h.each i v ys hv hy
      rcases hat k e.symm with y | y
      · rcases h.apart i v u (by omega) hv (by rw [hm, hn]; exact hu) with z | z
        · rw [hk] at z; cases z
        · exact z (by rw [hk, y])
      · have := (hv0.lt k hk).2; omega
/-- A row more, that begins empty. -/
theorem RowsT.more {B : Nat} {W W1 W2 : World} {v v2 : Value} {us : List Value} {rows : List (List Int)} {u : Value} (h : RowsT B W v us rows) (hb : Below W.heap.size W W1) (hu : Owns B W1 u []) (hnew : ∀ k, u.ownBlock = some k → W.heap.size ≤ k) (hgr : W1.grownBy W2 v.ownBlock) (ho : W2.ownsRow B 39 1 v2 (us.length + 1) (us ++ [u])) : RowsT B W2 v2 (us ++ [u]) (rows ++ [[]]) := by
  have h1 := h.kept hb
  have hk : ∀ {x : Value} {ys : List Int}, Owns B W1 x ys → Owns B W2 x ys := fun {x ys} hx => row_kept hx (fun k hk => hgr.block k (hx.lt k hk).2 (fun e => row_types h1.out hx (by decide) e.symm hk))
  refine ⟨by rw [List.length_append]; exact ho, by simp [h.len], fun i x ys hx hy => ?_, fun i x t hi hx ht => ?_⟩
  · rcases Nat.lt_or_ge i us.length with y | y
    · rw [List.getElem?_append_left y] at hx
      rw [List.getElem?_append_left (by rw [← h.len]; exact y)] at hy
      exact hk (h1.each i x ys hx hy)
    · have hil := at_lt hx
      rw [List.length_append] at hil
      have e : i = us.length := by simp at hil; omega
      subst e
      rw [List.getElem?_append_right (Nat.le_refl _), Nat.sub_self] at hx
      rw [h.len, List.getElem?_append_right (Nat.le_refl _), Nat.sub_self] at hy
      cases hx
      cases hy
      exact hk hu
  · rw [List.length_append] at hi ht
    have hil : i < us.length := by simp at hi; omega
    rw [List.getElem?_append_left hil] at hx
    rw [show us.length + [u].length - 1 = us.length by simp, List.getElem?_append_right (Nat.le_refl _), Nat.sub_self] at ht
    cases ht
    cases hk2 : x.ownBlock with
    | none => exact .inl rfl
    | some k =>
      right
      intro e
      obtain ⟨ys, hy⟩ : ∃ ys, rows[i]? = some ys := ⟨rows[i]'(by rw [← h.len]; omega), List.getElem?_eq_getElem _⟩
      have := ((h.each i x ys hx hy).lt k hk2).2
      have := hnew k e.symm
      omega

theorem owns_lit0 (W : World) (B : Nat) (hB : B ≤ W.heap.size) : Owns B (W.alloc (.cells #[] 5)) (.slice (some ⟨W.heap.size, 0, none⟩) 0 0) [] := World.ownsRow_lit W #[] 0 hB (by simp) (by simp)
theorem rowsT_start (W : World) (B : Nat) (hB : B ≤ W.heap.size) : RowsT B ((W.alloc (.cells #[] 5)).alloc (.cells #[.slice (some ⟨W.heap.size, 0, none⟩) 0 0] 39)) (.slice (some ⟨W.heap.size + 1, 0, none⟩) 1 1) [.slice (some ⟨W.heap.size, 0, none⟩) 0 0] [[]] := by
  have h1 := owns_lit0 W B hB
  have h2 := World.ownsRow_lit (base := B) (e := 39) (size := 1) (W.alloc (.cells #[] 5)) #[.slice (some ⟨W.heap.size, 0, none⟩) 0 0] 1 (by simp; omega) (by simp [maxLen]) (by simp)
  rw [World.size_alloc] at h2
  refine ⟨h2, rfl, fun i u zs hu hz => ?_, fun i u t hi => ?_⟩
  · match i, hu, hz with
    | 0, hu, hz =>
      cases hu
      cases hz
      exact h1.below ((Below.refl _ _).alloc (Nat.le_refl _) _)
    | i + 1, hu, _ => simp at hu
  · simp at hi
/-- Bytes appended to bytes of one's own: where the new ones lie. -/
theorem wpList_appendBa {ops : Array Oper} {rest : List Oper} {o : Oper} {a : Act} {Q : Exit → Act → World → Prop} {W : World} (hgd : o.guard = none) (s x : Operand) (ho : o.op = .call { callee := .builtin .append, args := #[s, x], argTypes := #[39, 39] })
    (base : Nat) (v : Value) (zs : List Int) (hs : a.eval s = v) (hown : Owns base W v zs) (A' : Option Addr) (ts : List Int) (l' c' : Nat) (hx : a.eval x = .slice A' l' c') (hll : ts.length = l') (g : Good A' c' ts W) (hl : zs.length + ts.length ≤ 10000) (hbase : base ≤ W.heap.size)
    (h : ∀ v' w', Owns base w' v' (zs ++ ts) → W.grownBy w' v.ownBlock → (∀ k, v'.ownBlock = some k → v.ownBlock = some k ∨ W.heap.size ≤ k) → wpList Tryz.prog ops Q rest (a.put o.dst v') w') : wpList Tryz.prog ops Q (o :: rest) a W := by
  obtain ⟨i0, hi, hz0, hz1, hz2⟩ := info_parts info_u8
  cases A' with
  | none =>
    obtain ⟨rfl, rfl⟩ := g.none_nil
    obtain rfl : l' = 0 := by simpa using hll.symm
    refine wpList_append_own_none hgd s x 39 ho base 5 i0 1 Tryz.underlying39 hi v _ _ hs hown hx (h v W ?_ ⟨rfl, rfl, rfl, Nat.le_refl _, fun _ _ _ => rfl⟩ (fun k hk => .inl hk))
    rw [List.append_nil]; exact hown
  | some ad =>
    refine wpList_append_own_at W hgd s x 39 ho base 5 i0 (.int .u8 0) 1 1 Tryz.underlying39 hi hz0 hz1 hz2 rfl (by decide) v zs.length _ hs hown ad l' c' (ts.map (Value.int .u8)) hx (by simp [hll]) (cells_of_good rfl g) (one_u8 ts) (by simp only [maxLen]; omega) (by omega) hbase (fun v' w' hown' hgrow _ hat => h v' w' ?_ hgrow (fun k hk => ?_))
    · unfold Owns
      rw [List.length_append, List.map_append, hll]
      exact hown'
    · rcases hat with y | y
      · exact .inl (by rw [← y]; exact hk)
      · rw [y] at hk; injection hk with hk; exact .inr (by omega)
/-- A slice appended to slices of one's own. -/
theorem wpList_appendRow {ops : Array Oper} {rest : List Oper} {o : Oper} {a : Act} {Q : Exit → Act → World → Prop} {W : World} (hgd : o.guard = none) (s x : Operand) (ho : o.op = .call { callee := .builtin .append, args := #[s, x], argTypes := #[51, 51] })
    (base : Nat) (v : Value) (us : List Value) (hs : a.eval s = v) (hown : W.ownsRow base 39 1 v us.length us) (u : Value) (hu1 : u.oneCell' = true) (b c : Nat) (hx : a.eval x = .slice (some ⟨b, 0, none⟩) 1 c) (hc : W.cell? ⟨b, 0, none⟩ = some u) (hl : us.length ≤ 4000) (hbase : base ≤ W.heap.size)
    (h : ∀ v' w', w'.ownsRow base 39 1 v' (us.length + 1) (us ++ [u]) → W.grownBy w' v.ownBlock → wpList Tryz.prog ops Q rest (a.put o.dst v') w') : wpList Tryz.prog ops Q (o :: rest) a W := by
  obtain ⟨i0, hi, hz0, hz1, hz2⟩ := info_parts info_bytes
  refine wpList_append_own W hgd s x 51 ho base 39 i0 _ 1 24 Tryz.underlying51 hi hz0 hz1 hz2 rfl (by decide) v us.length us hs hown ⟨b, 0, none⟩ 1 c [u] hx rfl (fun j w hw => ?_) (fun w hw => by rw [List.mem_singleton.1 hw]; exact hu1) (by simp only [maxLen]; omega) (by omega) hbase (fun v' w' hown' hgrow _ => h v' w' hown' hgrow)
  match j, hw with
  | 0, hw =>
    cases hw
    rw [Go.WideShapes.add_plain]
    exact hc
  | j + 1, hw => simp at hw

/-- What is known of the last row. -/
theorem RowsT.open_ {B R : Nat} {V : World} {v : Value} {us : List Value} {rows : List (List Int)} (h : RowsT B V v us rows) (hR : us.length = R + 1) : ∃ g cap Au cu zs, v = .slice (some ⟨g, 0, none⟩) (R + 1) cap ∧ B ≤ g ∧ g < V.heap.size ∧ us[R]? = some (.slice Au zs.length cu) ∧ rows[R]? = some zs ∧ Owns B V (.slice Au zs.length cu) zs ∧ V.cell? ⟨g, R, none⟩ = some (.slice Au zs.length cu) ∧
    (∀ V', V.grownBy V' (Value.slice Au zs.length cu).ownBlock → V'.cell? ⟨g, R, none⟩ = some (.slice Au zs.length cu) ∧ V'.frozen? ⟨g, R, none⟩ = false) := by
  have hout := h.out
  obtain ⟨g, cap, hv, hgB, hgl⟩ := hout.form (by omega)
  subst hv
  rw [hR] at hout
  have hu : us[R]? = some us[R] := List.getElem?_eq_getElem (by omega)
  have hrl : R < rows.length := by rw [← h.len]; omega
  have hz : rows[R]? = some rows[R] := List.getElem?_eq_getElem hrl
  have ho := h.each R _ _ hu hz
  obtain ⟨Au, cu, e, _⟩ := ho.good
  rw [e] at ho hu
  have hc := (hout.cellAt R (by omega)).trans hu
  refine ⟨g, cap, Au, cu, rows[R], by rw [hR], hgB, hgl, hu, hz, ho, hc, fun V' hg => ?_⟩
  have hb := hg.block g hgl (fun e2 => row_types hout ho (by decide) rfl e2.symm)
  exact ⟨(World.cell?_of_block (a := ⟨g, R, none⟩) hb).trans hc, (World.frozen?_of_block (a := ⟨g, R, none⟩) hb).trans (hout.frozenAt R)⟩

/-- Rows of bytes stay where records of one's own are appended to. -/
theorem RowsT.grown {B B' : Nat} {W W' : World} {v v2 : Value} {us : List Value} {rows : List (List Int)} {acc : List RecD} (h : RowsT B W v us rows) (hr : OwnsR B' W v2 acc) (hg : W.grownBy W' v2.ownBlock) : RowsT B W' v us rows := by
  refine ⟨row_kept h.out (fun k hk => hg.block k (h.out.lt k hk).2 (fun e => row_types h.out hr (by decide) hk e.symm)), h.len, fun i u zs hu hz => ?_, h.apart⟩
  have ho := h.each i u zs hu hz
  exact row_kept ho (fun k hk => hg.block k (ho.lt k hk).2 (fun e => row_types ho hr (by decide) hk e.symm))
/-- What is known of row i. -/
theorem RowsT.at_ {B n i : Nat} {V : World} {g cap : Nat} {us : List Value} {rows : List (List Int)} (h : RowsT B V (.slice (some ⟨g, 0, none⟩) n cap) us rows) (hn : us.length = n) (hi : i < n) : ∃ A c zs, rows[i]? = some zs ∧ V.cell? ⟨g, i, none⟩ = some (.slice A zs.length c) ∧ Good A c zs V := by
  have hout := h.out
  rw [hn] at hout
  have hu : us[i]? = some us[i] := List.getElem?_eq_getElem (by omega)
  have hz : rows[i]? = some (rows[i]'(by rw [← h.len]; omega)) := List.getElem?_eq_getElem _
  have ho := h.each i _ _ hu hz
  obtain ⟨A, c, e, gd⟩ := ho.good
  rw [e] at hu
  exact ⟨A, c, _, hz, (hout.cellAt i (by omega)).trans hu, gd⟩
end Go.Proofs.YtdmkkfpbgpijjaaGreat
namespace Go.Proofs.YtdmkkfpbgpijjaaGreat
open Go.RowKit Go.Deep Go.Maps
attribute [local go_sem ↓] Go.wp_at_zero Go.wp_at_succ

set_option maxRecDepth 100000 in
set_option maxHeartbeats 2000000 in
theorem rwrite_in (G : Nat → Prop) (rb n i : Nat) (st : St) (A : Option Addr) (c : Nat) (zs : List Int) (w : World) (h : RefAt w G rb n st) (hi : i < n) (hz : zs.length = 32) (hg : Good A c zs w) (hc : st.cache.length ≤ 999) :
    Calls Tryz.prog 20 #[.pointer (some ⟨rb, 0, none⟩), .int .i64 i, .slice A 32 c] w (fun e w' => RDoes G rb n (writeS st i zs) (.int .i64 0) w e w' ∧ w'.cell? ⟨rb, 0, none⟩ = w.cell? ⟨rb, 0, none⟩) := by
  obtain ⟨sv, cv, vs, es, h, g0, g1, g2, g3, g4, g5⟩ := h
  obtain ⟨sb, cap0, rfl, hsb⟩ := sv_shape h
  obtain ⟨i0, hi0, hz0, hz1, hz2⟩ := info_parts info_rw
  have r0 := h.r0
  have r1 := h.r1
  have hrb := h.lt
  have hel : es.length ≤ 999 := by have : es.length = st.cache.length := by rw [← h.same, List.length_map]
                                   omega
  have d1 : decide ((i : Int) < 0) = false := by simp
  have d2 : decide ((n : Int) ≤ (i : Int)) = false := by simp; omega
  have d3 : decide (n ≤ i) = false := by simp; omega
  have i1 : (i : Int) < (n : Int) := by omega
  have hne : some rb ≠ cv.ownBlock := fun e => by
    obtain ⟨D, fr, hd⟩ := rowR_block h.crow e.symm
    obtain ⟨C0, hb0⟩ := h.blk
    exact apart_types hb0 hd (by decide) rfl
  have HZ := Lib.hid hz
  have HG := Lib.hid hg
  have HW := Lib.hid h
  have HF := Lib.hid (⟨g0, g1, g2, g3, g4, g5⟩ : G rb ∧ (∀ k, (Value.slice (some ⟨sb, 0, none⟩) n cap0).ownBlock = some k → G k) ∧ (∀ k, cv.ownBlock = some k → G k) ∧ (∀ v ∈ vs, ∀ k, v.ownBlock = some k → G k) ∧ (∀ e ∈ es, ∀ k, e.2.ownBlock = some k → G k) ∧ ∀ k, G k → k < w.heap.size)
  clear hz hg h g0 g1 g2 g3 g4 g5
  go_enter Tryz.func20, Tryz.ntmps20
  go_wp2
  go_region_law (first
    | (refine step_append_lies _ (by rfl) _ _ _ (by rfl) 0 102 i0 _ 2 32 Tryz.underlying52 hi0 hz0 hz1 hz2 (by rfl) (by omega) cv es.length (es.flatMap enC) (by rfl) (HCR.out.alloc _) ⟨w2.heap.size, 0, none⟩ 1 1 [.int .i64 (i : Int), .slice (some ⟨d, 0, none⟩) 32 capd] (by rfl) (by rfl) (World.news_of_block (cs := #[.int .i64 (i : Int), .slice (some ⟨d, 0, none⟩) 32 capd]) (t := 102) (fr := (0, 0)) (heap_alloc_new w2 _)) (by simp [Value.oneCell']) (by omega) (by simp only [maxLen]; omega) (by omega) (by omega) (w2.heap.size + 1) (by simp) ?_; intro g cap w3 hown hgrow hat hlt1; have k1 : w3.cell? ⟨rb, 1, none⟩ = some cv := (World.cell?_of_block (a := ⟨rb, 1, none⟩) (hgrow.block rb (by simp; omega) hne)).trans (r1c _); have kf : w3.frozen? ⟨rb, 1, none⟩ = false := (World.frozen?_of_block (a := ⟨rb, 1, none⟩) (hgrow.block rb (by simp; omega) hne)).trans (f1c _))
    | (go_simp; go_at_call 51; refine (copyB A zs c 32 HZ.out (by omega) _ (HG.out.drewN 1)).mono ?_; rintro e w2 ⟨v2, rfl, o2, b2⟩; obtain ⟨d, capd, e2, _, hdl⟩ := World.ownsRow.form o2 (by rw [HZ.out]; omega); subst e2; rw [HZ.out]; have B2 : Hid (Below w.heap.size w w2) := Lib.hid ⟨b2.os, b2.tape, b2.output, b2.size, b2.block⟩; have s2 : w.heap.size ≤ w2.heap.size := b2.size; have HR2 := Lib.hid (HW.out.below B2.out); have HCR := Lib.hid HR2.out.crow; have r1b : w2.cell? ⟨rb, 1, none⟩ = some cv := HR2.out.r1; have r1c : ∀ o : Obj, (w2.alloc o).cell? ⟨rb, 1, none⟩ = some cv := (fun o => (World.cell?_alloc_lt w2 o ⟨rb, 1, none⟩ (Nat.lt_of_lt_of_le hrb s2)).trans r1b); have f1c : ∀ o : Obj, (w2.alloc o).frozen? ⟨rb, 1, none⟩ = false := (fun o => (World.frozen?_alloc_past _ rb 1 (Nat.lt_of_lt_of_le hrb s2)).trans HR2.out.f1); have O2 := Lib.hid o2; clear o2 b2))
  all_goals
    have hO : Owns w.heap.size w2 (.slice (some ⟨d, 0, none⟩) 32 capd) zs := by
      have := O2.out
      rw [HZ.out] at this
      exact this
    obtain ⟨g0, g1, g2, g3, g4, g5⟩ := HF.out
    have hz0 : w3.cell? ⟨rb, 0, none⟩ = w.cell? ⟨rb, 0, none⟩ := ((World.cell?_of_block (a := ⟨rb, 0, none⟩) (hgrow.block rb (by simp; omega) hne)).trans ((World.cell?_alloc_lt w2 _ ⟨rb, 0, none⟩ (Nat.lt_of_lt_of_le hrb s2)).trans HR2.out.r0)).trans HW.out.r0.symm
    have HZ0 := Lib.hid hz0
    clear hz0
    have hfin := HW.out.written (v2 := .slice (some ⟨d, 0, none⟩) 32 capd) hi HZ.out B2.out hO hgrow hown hat g0 g1 g2 g3 g4 g5 (.int .i64 0)
    have HFIN := Lib.hid hfin
    clear hfin hown hgrow g0 g1 g2 g3 g4 g5 hO r1b r1c f1c k1 kf
    go_wp2
    go_ret
    exact ⟨HFIN.out, (World.cell?_setCell_other _ _ _ _ (by simp)).trans HZ0.out⟩
end Go.Proofs.YtdmkkfpbgpijjaaGreat

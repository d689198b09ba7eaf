/- wal: Append, Checkpoint; all that layer 5's calls answer (walOK). The document's own log (concordatref05): Append, Checkpoint. DiskCalls: the walk, over a disk and the document's own. -/
import Derived.Test.YtdmkkfpbgpijjaaGreatWbt
import Derived.Test.YtdmkkfpbgpijjaaGreatWbu
import Derived.Test.YtdmkkfpbgpijjaaGreatWbk
namespace Go.Proofs.YtdmkkfpbgpijjaaGreat
open Go.RowKit Go.Deep Go.Maps
set_option linter.unusedVariables false

theorem LI5.own {w : World} {F : Nat → Prop} {lb db : Nat} {lg : LogD} (h : LI5 w F lb db lg) : LI5 w (· = lb) lb db lg := ⟨h.lt, rfl, fun k hk => hk, h.c0, h.c1, h.c2, h.c3, h.f1, h.f2, h.f3, h.sf⟩
theorem LI5.as {w w' : World} {F : Nat → Prop} {lb db : Nat} {lg lg' : LogD} (h : LI5 w' (· = lb) lb db lg') (k : LI5 w F lb db lg) : LI5 w' F lb db lg' := ⟨h.lt, k.here, k.only, h.c0, h.c1, h.c2, h.c3, h.f1, h.f2, h.f3, h.sf⟩
theorem LogSt.in_ {w : World} {FL FD : Nat → Prop} {lb db N : Nat} {st : St} {lg : LogD} (h : LogSt LI5 w FL FD lb db N st lg) : ∃ sb mb cv, LogIn w lb db sb mb cv N st lg ∧ FD db ∧ FD sb ∧ FD mb ∧ (∀ k, cv.ownBlock = some k → FD k) := by
  obtain ⟨sb, mb, cv, hD, f0, f1, f2, f3, f4⟩ := h.disk
  have hn : ∀ k, FD k → lb ≠ k := fun k hk e => h.apart lb h.log.here (e ▸ hk)
  exact ⟨sb, mb, cv, ⟨h.log.own, hD, hn _ f0, hn _ f1, hn _ f2, fun e => hn lb (f3 lb e) rfl⟩, f0, f1, f2, f3⟩
theorem logDoes_mk {w w' : World} {FL FD : Nat → Prop} {lb db N sb mb : Nat} {cv cv' : Value} {st st' : St} {lg lg' : LogD} {v : Value} (h : LogSt LI5 w FL FD lb db N st lg) (f0 : FD db) (f1 : FD sb) (f2 : FD mb) (f3 : ∀ k, cv.ownBlock = some k → FD k)
    (hL : LogIn w' lb db sb mb cv' N st' lg') (ho : ∀ k, cv'.ownBlock = some k → cv.ownBlock = some k ∨ w.heap.size ≤ k) (hm : Moves (FW lb db sb mb cv) w w') (ok : LogOK N lg') (hb : BytesD st') : LogDoes LI5 FL FD lb db N st' lg' v w (.returned v) w' := by
  have hfw : ∀ k, FW lb db sb mb cv k → FL k ∨ FD k := by
    rintro k (e | e | e | e | e)
    · exact .inl (e ▸ h.log.here)
    · exact .inr (e ▸ f0)
    · exact .inr (e ▸ f1)
    · exact .inr (e ▸ f2)
    · exact .inr (f3 k e)
  refine ⟨rfl, hm.mono hfw, FL, grow FD w w', ⟨hL.log.as h.log, ⟨sb, mb, cv', hL.disk, .inl f0, .inl f1, .inl f2, fun k hk => ?_, ?_⟩, ?_, ok, hb⟩, fun k hk => .inl hk, fun k hk => hk.elim .inl (fun x => .inr x.1)⟩
  · rcases ho k hk with y | y
    · exact .inl (f3 k y)
    · exact .inr ⟨y, (hL.disk.row.lt k hk).2⟩
  · rintro k (hk | hk)
    · exact Nat.lt_of_lt_of_le (h.disk.lt k hk) hm.size
    · exact hk.2
  · intro k hk hg
    rw [h.log.only k hk] at hg
    rcases hg with y | y
    · exact h.apart lb h.log.here y
    · have := h.log.lt; omega
theorem logDoes_same {w w' : World} {FL FD : Nat → Prop} {lb db N : Nat} {st : St} {lg : LogD} {v : Value} (h : LogSt LI5 w FL FD lb db N st lg) (hb : Below w.heap.size w w') : LogDoes LI5 FL FD lb db N st lg v w (.returned v) w' :=
  ⟨rfl, moves_of_below hb, FL, FD, h.below5 hb, fun k hk => .inl hk, fun k hk => .inl hk⟩
theorem bytes_app {st : St} (h : BytesD st) (N : Nat) (ss : List Sec) (ok : ∀ s ∈ ss, okS s) : BytesD ⟨st.safe, st.cache ++ puts N ss⟩ := by
  refine ⟨h.1, fun p hp => ?_⟩
  rcases List.mem_append.1 hp with y | y
  · exact h.2 p y
  · obtain ⟨s, hs, rfl⟩ := List.mem_map.1 y
    exact secL_bytes (ok s hs)
theorem writeRow_any (lb db sb mb : Nat) (cv : Value) (N : Nat) (st : St) (next first sure : Nat) (A : Option Addr) (len cap : Nat) (zs : List Int) (w : World) (h : LogIn w lb db sb mb cv N st ⟨next, first, sure⟩) (hl : zs.length = len) (hl2 : len ≤ 8000) (hz : isBytes zs) (g : Good A cap zs w) (hA : ∀ a, A = some a → ¬ FW lb db sb mb cv a.block)
    (hn1 : 1 ≤ next) (hnx : next + secsN zs ≤ 4294967296) (hf : first ≤ next) (hc : st.cache.length + secsN zs ≤ 999) :
    Calls Tryz.prog 40 #[.pointer (some ⟨lb, 0, none⟩), .slice A len cap] w (RowSays lb db sb mb cv N ⟨st.safe, st.cache ++ puts N (laySecs next first zs)⟩ ⟨next + secsN zs, first, sure⟩ w) :=
  callsIn_wide.1 (writeRow_in 4 (Nat.le_refl _) lb db sb mb cv N st next first sure A len cap zs w h hl hl2 hz g hA hn1 hnx hf hc)
theorem LogIn.apart_new {w : World} {lb db sb mb : Nat} {cv : Value} {N : Nat} {st : St} {lg : LogD} (h : LogIn w lb db sb mb cv N st lg) (k : Nat) (hk : FW lb db sb mb cv k) : k < w.heap.size := by
  obtain ⟨l0, l1, l2, l3⟩ := h.lts
  rcases hk with e | e | e | e | e
  · omega
  · omega
  · omega
  · omega
  · exact (h.disk.row.lt k e).2
theorem owns_new {B : Nat} {w : World} {A : Option Addr} {l c : Nat} {zs : List Int} (h : Owns B w (.slice A l c) zs) : ∀ a, A = some a → B ≤ a.block := by
  intro a e
  rcases h.2 with ⟨e2, _⟩ | ⟨g, cap, cur, e2, hb, _⟩
  · rw [e] at e2; cases e2
  · rw [e] at e2; cases e2; exact hb
set_option maxRecDepth 100000 in
set_option maxHeartbeats 1000000 in
theorem append5 (FL FD : Nat → Prop) (lb db N : Nat) (st : St) (lg : LogD) (A : Option Addr) (l c : Nat) (rs : List RecD) (spare : Int) (w : World) (h : LogSt LI5 w FL FD lb db N st lg) (hl : rs.length = l) (hl2 : l ≤ 200) (ok : ∀ r ∈ rs, okR r) (g : GoodR A c rs w) (hs : isI64 spare) (hc : st.cache.length + nOf rs ≤ 999) (hq : fitsE N lg rs 0 spare = 0) :
    Calls Tryz.prog 10 #[.pointer (some ⟨lb, 0, none⟩), .slice A l c, .int .i64 spare] w (LogDoes LI5 FL FD lb db N (appS N lg st rs) (appL lg rs) (.int .i64 0) w) := by
  obtain ⟨sb, mb, cv, hin, f0, f1, f2, f3⟩ := h.in_
  have cF := fitting_any FL FD lb db N st lg A l c 0 rs spare 0 w h hl hl2 ok g hs (by omega) hq
  obtain ⟨q1, q2, q3, q4⟩ := fits_ok hq
  have hRL := rightL_of q1 ok
  have hzb := rights_bytes hRL
  have hjl := joinL_le rs
  rw [hl] at hjl
  have HH := Lib.hid h
  have HI := Lib.hid hin
  have hdone := Lib.hid (show ∀ (w' : World) (cv' : Value), LogIn w' lb db sb mb cv' N ⟨st.safe, st.cache ++ puts N (laySecs lg.next lg.first (joinL rs))⟩ ⟨lg.next + secsN (joinL rs), lg.first, lg.sure⟩ → (∀ k, cv'.ownBlock = some k → cv.ownBlock = some k ∨ w.heap.size ≤ k) → Moves (FW lb db sb mb cv) w w' → LogDoes LI5 FL FD lb db N (appS N lg st rs) (appL lg rs) (.int .i64 0) w (.returned (.int .i64 0)) w' from fun w' cv' a1 a2 a3 => by
    have o := h.ok
    refine logDoes_mk h f0 f1 f2 f3 a1 a2 a3 ⟨o.one, o.sure1, ?_, ?_, ?_, ?_⟩ ?_
    · have := o.sure; show lg.sure ≤ lg.next + nOf rs; omega
    · have := o.first; show lg.first ≤ lg.next + nOf rs; omega
    · show lg.next + nOf rs ≤ _; omega
    · show lg.next + nOf rs ≤ lg.sure + N; omega
    · refine bytes_app h.bytes N _ (fun s hs => ?_)
      rcases Nat.eq_zero_or_pos (secsN (joinL rs)) with z | z
      · rw [show laySecs lg.next lg.first (joinL rs) = [] by unfold laySecs; rw [z]; rfl] at hs; cases hs
      · have hnn : lg.next + secsN (joinL rs) ≤ 4294967296 := by have e : nOf rs = secsN (joinL rs) := rfl; omega
        exact laySecs_ok _ _ _ hzb hnn (by have := o.first; omega) s hs)
  have hn1 : 1 ≤ lg.next := Nat.le_trans h.ok.one h.ok.first
  have hfn := h.ok.first
  have hnn : lg.next + secsN (joinL rs) ≤ 4294967296 := by have e : nOf rs = secsN (joinL rs) := rfl; omega
  have hcc : st.cache.length + secsN (joinL rs) ≤ 999 := hc
  obtain ⟨next, first, sure⟩ := lg
  simp only at *
  have HZ := Lib.hid hzb
  clear hq h hin hl ok g hRL q1 q2 q3 q4 hc hzb
  go_enter Tryz.func10, Tryz.ntmps10
  go_wp2_with fail
  refine cF.mono ?_
  clear cF
  rintro e W1 ⟨b1, ⟨_, v, rfl, own⟩ | ⟨hne, _⟩⟩
  · obtain ⟨A1, c1, rfl, g1⟩ := own.good
    have hnew := owns_new own
    have hI1 := HI.out.below b1
    have cR := writeRow_any lb db sb mb cv N st next first sure A1 (joinL rs).length c1 (joinL rs) W1 hI1 rfl (by omega) HZ.out g1 (fun a ha hf => by have := HI.out.apart_new _ hf; have := hnew a ha; omega) hn1 hnn hfn hcc
    have HB1 := Lib.hid b1
    generalize (joinL rs).length = jl at *
    clear own g1 hnew hI1 b1
    go_wp2_with fail
    refine cR.mono ?_
    clear cR
    rintro e W2 ⟨rfl, ⟨cv', hl', ho'⟩, hm'⟩
    have HL := Lib.hid hl'
    have HO := Lib.hid ho'
    have HM := Lib.hid hm'
    clear hl' ho' hm'
    go_wp2
    go_ret
    exact hdone.out W2 cv' HL.out (fun k hk => (HO.out k hk).elim .inl (fun y => .inr (Nat.le_trans HB1.out.size y))) ((moves_of_below HB1.out).trans HM.out (fun _ x => .inl x))
  · exact absurd rfl hne
theorem append_no5 (FL FD : Nat → Prop) (lb db N : Nat) (st : St) (lg : LogD) (A : Option Addr) (l c : Nat) (rs : List RecD) (spare q : Int) (w : World) (h : LogSt LI5 w FL FD lb db N st lg) (hl : rs.length = l) (hl2 : l ≤ 200) (ok : ∀ r ∈ rs, okR r) (g : GoodR A c rs w) (hs : isI64 spare) (hq : fitsE N lg rs 0 spare = q) (hq0 : q ≠ 0) :
    Calls Tryz.prog 10 #[.pointer (some ⟨lb, 0, none⟩), .slice A l c, .int .i64 spare] w (LogDoes LI5 FL FD lb db N st lg (.int .i64 q) w) := by
  have cF := fitting_any FL FD lb db N st lg A l c 0 rs spare q w h hl hl2 ok g hs (by omega) hq
  have HH := Lib.hid h
  have hqd : (q != 0) = true := by simpa using hq0
  clear h hl ok g hq
  go_enter Tryz.func10, Tryz.ntmps10
  go_wp2_with fail
  refine cF.mono ?_
  clear cF
  rintro e W1 ⟨b1, ⟨h0, _⟩ | ⟨_, rfl⟩⟩
  · exact absurd h0 hq0
  · go_wp2
    go_ret
    exact logDoes_same HH.out b1

theorem LogIn.first_set {w : World} {lb db sb mb : Nat} {cv : Value} {N : Nat} {st : St} {next first sure : Nat} (h : LogIn w lb db sb mb cv N st ⟨next, first, sure⟩) (x : Nat) (hx : sure ≤ x) : LogIn (w.setCell ⟨lb, 2, none⟩ (.int .i64 x)) lb db sb mb cv N st ⟨next, x, sure⟩ := by
  have hm2 : Moves (· = lb) w (w.setCell ⟨lb, 2, none⟩ (.int .i64 x)) := moves_setCell _ _ _ _ rfl
  have hd := h.disk
  exact ⟨li5_set2 h.log x hx, hd.kept hm2.size (hm2.block _ hd.lt0 (Ne.symm h.n0)) (hm2.block _ hd.lt1 (Ne.symm h.n1)) (hm2.block _ hd.map.lt (Ne.symm h.n2)) (fun k hk => hm2.block k (hd.row.lt k hk).2 (fun e => h.n3 (e ▸ hk))), h.n0, h.n1, h.n2, h.n3⟩
theorem chkSecs_ok (lg : LogD) (rs : List RecD) (hzb : isBytes (joinL rs)) (h1 : lg.next + nOf rs + 1 ≤ 4294967296) (hf : lg.first ≤ lg.next) : ∀ s ∈ chkSecs lg rs, okS s := by
  intro s hs
  have e : nOf rs = secsN (joinL rs) := rfl
  rcases List.mem_append.1 hs with y | y
  · exact laySecs_ok _ _ _ hzb (by omega) (by omega) s y
  · rw [List.mem_singleton] at y
    rw [y]
    exact ⟨by show lg.next + nOf rs < _; omega, by show lg.next < _; omega, Nat.zero_le _, fun z hz => by cases hz⟩
set_option maxRecDepth 100000 in
set_option maxHeartbeats 1000000 in
theorem check5 (FL FD : Nat → Prop) (lb db N : Nat) (st : St) (lg : LogD) (A : Option Addr) (l c : Nat) (rs : List RecD) (spare : Int) (w : World) (h : LogSt LI5 w FL FD lb db N st lg) (hl : rs.length = l) (hl2 : l ≤ 200) (ok : ∀ r ∈ rs, okR r) (g : GoodR A c rs w) (hs : isI64 spare) (hc : st.cache.length + nOf rs + 1 ≤ 999) (hq : fitsE N lg rs 1 spare = 0) :
    Calls Tryz.prog 14 #[.pointer (some ⟨lb, 0, none⟩), .slice A l c, .int .i64 spare] w (LogDoes LI5 FL FD lb db N (chkS N lg st rs) (chkL lg rs) (.int .i64 0) w) := by
  obtain ⟨sb, mb, cv, hin, f0, f1, f2, f3⟩ := h.in_
  have cF := fitting_any FL FD lb db N st lg A l c 1 rs spare 0 w h hl hl2 ok g hs (by omega) hq
  obtain ⟨q1, q2, q3, q4⟩ := fits_ok hq
  have hRL := rightL_of q1 ok
  have hzb := rights_bytes hRL
  have hjl := joinL_le rs
  rw [hl] at hjl
  have HI := Lib.hid hin
  have en : nOf rs = secsN (joinL rs) := rfl
  have hdone := Lib.hid (show ∀ (w' : World) (cv' : Value), LogIn w' lb db sb mb cv' N (writeS ⟨st.safe, st.cache ++ puts N (laySecs lg.next lg.first (joinL rs))⟩ (placeOf N (lg.next + secsN (joinL rs))) (secL ⟨lg.next + secsN (joinL rs), lg.next, [], true⟩)) ⟨lg.next + secsN (joinL rs) + 1, lg.next, lg.sure⟩ → (∀ k, cv'.ownBlock = some k → cv.ownBlock = some k ∨ w.heap.size ≤ k) → Moves (FW lb db sb mb cv) w w' → LogDoes LI5 FL FD lb db N (chkS N lg st rs) (chkL lg rs) (.int .i64 0) w (.returned (.int .i64 0)) w' from fun w' cv' a1 a2 a3 => by
    have o := h.ok
    have e1 : writeS ⟨st.safe, st.cache ++ puts N (laySecs lg.next lg.first (joinL rs))⟩ (placeOf N (lg.next + secsN (joinL rs))) (secL ⟨lg.next + secsN (joinL rs), lg.next, [], true⟩) = chkS N lg st rs := by
      unfold writeS chkS chkSecs
      rw [puts_append]
      simp [puts, en]
    rw [e1] at a1
    refine logDoes_mk h f0 f1 f2 f3 a1 a2 a3 ⟨?_, o.sure1, ?_, ?_, ?_, ?_⟩ ?_
    · have := o.one; have := o.first; show 1 ≤ lg.next; omega
    · have := o.sure; show lg.sure ≤ lg.next + nOf rs + 1; omega
    · show lg.next ≤ lg.next + nOf rs + 1; omega
    · show lg.next + nOf rs + 1 ≤ _; omega
    · show lg.next + nOf rs + 1 ≤ lg.sure + N; omega
    · exact bytes_app h.bytes N _ (chkSecs_ok lg rs hzb (by omega) o.first))
  have hn1 : 1 ≤ lg.next := Nat.le_trans h.ok.one h.ok.first
  have hfn := h.ok.first
  have hsn := h.ok.sure
  have hnn : lg.next + secsN (joinL rs) + 1 ≤ 4294967296 := by omega
  have hcc : st.cache.length + secsN (joinL rs) + 1 ≤ 999 := hc
  obtain ⟨next, first, sure⟩ := lg
  simp only at *
  have HZ := Lib.hid hzb
  clear hq h hin hl ok g hRL q1 q2 q3 q4 hc hzb en
  go_enter Tryz.func14, Tryz.ntmps14
  go_wp2_with fail
  refine cF.mono ?_
  clear cF
  rintro e W1 ⟨b1, ⟨_, v, rfl, own⟩ | ⟨hne, _⟩⟩
  · obtain ⟨A1, c1, rfl, g1⟩ := own.good
    have hnew := owns_new own
    have hI1 := HI.out.below b1
    have k1 := hI1.log.c1
    have cR := writeRow_any lb db sb mb cv N st next first sure A1 (joinL rs).length c1 (joinL rs) W1 hI1 rfl (by omega) HZ.out g1 (fun a ha hf => by have := HI.out.apart_new _ hf; have := hnew a ha; omega) hn1 (by omega) hfn (by omega)
    have HB1 := Lib.hid b1
    have HI1 := Lib.hid hI1
    generalize (joinL rs).length = jl at *
    clear own g1 hnew hI1 b1
    simp only at k1
    go_wp2_with fail
    refine cR.mono ?_
    clear cR
    rintro e W2 ⟨rfl, ⟨cv', hl', ho'⟩, hm'⟩
    have k2 := hl'.log.c2
    have k3 := hl'.log.f2
    have hset := hl'.first_set next hsn
    have hcl : (st.cache ++ puts N (laySecs next first (joinL rs))).length = st.cache.length + secsN (joinL rs) := by rw [List.length_append, puts_length, laySecs_length]
    have cW := writeSec_any lb db sb mb cv' N ⟨st.safe, st.cache ++ puts N (laySecs next first (joinL rs))⟩ (next + secsN (joinL rs)) next sure none 0 0 [] true (W2.setCell ⟨lb, 2, none⟩ (.int .i64 next)) hset rfl (by omega) (fun z hz => by cases hz) (Good.nil _) (by omega) (by omega) (by omega) (by show (st.cache ++ puts N (laySecs next first (joinL rs))).length ≤ 999; omega)
    have HL := Lib.hid hl'
    have HO := Lib.hid ho'
    have HM := Lib.hid hm'
    simp only at k2
    clear hl' ho' hm' hset hcl
    go_wp2_with fail
    refine cW.mono ?_
    clear cW
    rintro e W3 ⟨rfl, ⟨cv'', hl'', ho''⟩, hm''⟩
    have HL2 := Lib.hid hl''
    have HO2 := Lib.hid ho''
    have HM2 := Lib.hid hm''
    clear hl'' ho'' hm''
    go_wp2
    go_ret
    have hm2 : Moves (· = lb) W2 (W2.setCell ⟨lb, 2, none⟩ (.int .i64 next)) := moves_setCell _ _ _ _ rfl
    have hs2 : (W2.setCell ⟨lb, 2, none⟩ (.int .i64 next)).heap.size = W2.heap.size := by simp
    have z1 := HB1.out.size
    have z2 := HM.out.size
    refine hdone.out W3 cv'' HL2.out (fun k hk => ?_) ?_
    · rcases HO2.out k hk with y | y
      · rcases HO.out k y with x | x
        · exact .inl x
        · exact .inr (by omega)
      · exact .inr (by omega)
    · have m1 : Moves (FW lb db sb mb cv) w (W2.setCell ⟨lb, 2, none⟩ (.int .i64 next)) := ((moves_of_below HB1.out).trans HM.out (fun _ x => .inl x)).trans hm2 (fun k hk => .inl (.inl hk))
      refine m1.trans HM2.out ?_
      rintro k (e | e | e | e | e)
      · exact .inl (.inl e)
      · exact .inl (.inr (.inl e))
      · exact .inl (.inr (.inr (.inl e)))
      · exact .inl (.inr (.inr (.inr (.inl e))))
      · rcases HO.out k e with y | y
        · exact .inl (.inr (.inr (.inr (.inr y))))
        · exact .inr (by omega)
  · exact absurd rfl hne
theorem check_no5 (FL FD : Nat → Prop) (lb db N : Nat) (st : St) (lg : LogD) (A : Option Addr) (l c : Nat) (rs : List RecD) (spare q : Int) (w : World) (h : LogSt LI5 w FL FD lb db N st lg) (hl : rs.length = l) (hl2 : l ≤ 200) (ok : ∀ r ∈ rs, okR r) (g : GoodR A c rs w) (hs : isI64 spare) (hq : fitsE N lg rs 1 spare = q) (hq0 : q ≠ 0) :
    Calls Tryz.prog 14 #[.pointer (some ⟨lb, 0, none⟩), .slice A l c, .int .i64 spare] w (LogDoes LI5 FL FD lb db N st lg (.int .i64 q) w) := by
  have cF := fitting_any FL FD lb db N st lg A l c 1 rs spare q w h hl hl2 ok g hs (by omega) hq
  have HH := Lib.hid h
  have hqd : (q != 0) = true := by simpa using hq0
  clear h hl ok g hq
  go_enter Tryz.func14, Tryz.ntmps14
  go_wp2_with fail
  refine cF.mono ?_
  clear cF
  rintro e W1 ⟨b1, ⟨h0, _⟩ | ⟨_, rfl⟩⟩
  · exact absurd h0 hq0
  · go_wp2
    go_ret
    exact logDoes_same HH.out b1
/-- What layer 5's calls answer. -/
theorem walOK : WalOK LI5 where
  lt := fun h => h.lts
  kept := fun h hm hd => h.kept hm hd
  open_yes := open_yes5
  open_no := open_no5
  app_yes := fun FL FD lb db N st lg A l c rs spare w h h1 h2 h3 h4 h5 h6 h7 => append5 FL FD lb db N st lg A l c rs spare w h h1 h2 h3 h4 h5 h6 h7
  app_no := fun FL FD lb db N st lg A l c rs spare q w h h1 h2 h3 h4 h5 h6 h7 => append_no5 FL FD lb db N st lg A l c rs spare q w h h1 h2 h3 h4 h5 h6 h7
  chk_yes := fun FL FD lb db N st lg A l c rs spare w h h1 h2 h3 h4 h5 h6 h7 => check5 FL FD lb db N st lg A l c rs spare w h h1 h2 h3 h4 h5 h6 h7
  chk_no := fun FL FD lb db N st lg A l c rs spare q w h h1 h2 h3 h4 h5 h6 h7 => check_no5 FL FD lb db N st lg A l c rs spare q w h h1 h2 h3 h4 h5 h6 h7
  force := force5
  free := free5
  next := next5
  first := first5
  sectors := fun A l c rs w h1 h2 h3 h4 => sectors5 A l c rs w h1 h2 h3 h4
end Go.Proofs.YtdmkkfpbgpijjaaGreat
namespace Go.Proofs.YtdmkkfpbgpijjaaGreat
open Go.RowKit Go.Deep
set_option linter.unusedVariables false

theorem rlogDoes_more {G : Nat → Prop} {gb rb N : Nat} {st : St} {lg : LogD} {v v' : Value} {w w1 w2 : World} {e : Ending} (hb : Below w.heap.size w w1) (hG : ∀ k, G k → k < w.heap.size) (hgb : gb < w.heap.size) (hng : ¬ G gb) (h : RLogDoes G gb rb N st lg v w1 e w2) : RLogDoes G gb rb N st lg v' w (.returned v') w2 := by
  obtain ⟨_, ha, hm⟩ := h
  refine ⟨rfl, ⟨ha.log, ha.disk.more ?_ ?_, not_grow hng hgb⟩, (moves_of_below hb).trans hm (fun _ x => .inl x)⟩
  · rintro k (y | y)
    · exact .inl y
    · exact .inr ⟨Nat.le_trans hb.size y.1, y.2⟩
  · rintro k (y | y)
    · exact Nat.lt_of_lt_of_le (hG k y) (Nat.le_trans hb.size hm.size)
    · exact y.2
theorem rlogDoes_same {G : Nat → Prop} {gb rb N : Nat} {st : St} {lg : LogD} {v : Value} {w w' : World} (h : RLogAt w G gb rb N st lg) (hb : Below w.heap.size w w') : RLogDoes G gb rb N st lg v w (.returned v) w' := by
  refine ⟨rfl, ⟨h.log.below hb, (h.disk.below hb).more (fun k hk => .inl hk) ?_, not_grow h.apart h.log.lt⟩, moves_of_below hb⟩
  rintro k (y | y)
  · exact Nat.lt_of_lt_of_le (h.disk.lt k y) hb.size
  · exact y.2
set_option maxRecDepth 100000 in
set_option maxHeartbeats 1000000 in
theorem refAppend (G : Nat → Prop) (gb rb N : Nat) (st : St) (lg : LogD) (A : Option Addr) (l c : Nat) (rs : List RecD) (spare : Int) (w : World) (h : RLogAt w G gb rb N st lg) (hN1 : 1 ≤ N) (hN : N ≤ 60) (ok5 : LogOK N lg) (hl : rs.length = l) (hl2 : l ≤ 200) (ok : ∀ r ∈ rs, okR r) (g : GoodR A c rs w) (hs : isI64 spare) (hc : st.cache.length + nOf rs ≤ 999) (hq : fitsE N lg rs 0 spare = 0) :
    Calls Tryz.prog 11 #[.pointer (some ⟨gb, 0, none⟩), .slice A l c, .int .i64 spare] w (RLogDoes G gb rb N (appS N lg st rs) (appL lg rs) (.int .i64 0) w) := by
  have cF := refFits G gb rb N st lg A l c 0 rs spare 0 w h hN ok5 hl hl2 ok g hs (by omega) hq
  obtain ⟨q1, q2, q3, q4⟩ := fits_ok hq
  have hzb := rights_bytes (rightL_of q1 ok)
  have hjl := joinL_le rs
  rw [hl] at hjl
  have en : nOf rs = secsN (joinL rs) := rfl
  have cJ := fun W (hW : Below w.heap.size w W) => refJoin_any A l c rs hl hl2 ok W (g.below hW)
  have hG := h.disk.lt
  have hgb := h.log.lt
  have hng := h.apart
  have hn1 : 1 ≤ lg.next := Nat.le_trans ok5.one ok5.first
  have hfn := ok5.first
  have cL := Lib.hid (fun (W : World) (hW : Below w.heap.size w W) (A1 : Option Addr) (c1 : Nat) (g1 : Good A1 c1 (joinL rs) W) (hA1 : ∀ a, A1 = some a → w.heap.size ≤ a.block) => refLay G gb rb N st lg.next lg.first lg.sure A1 (joinL rs).length c1 (joinL rs) W (h.below hW) hN1 hN rfl (by omega) hzb g1 (fun a ha hf => by have := hA1 a ha; rcases hf with y | y <;> first | (have := hG _ y; omega) | omega) hn1 (by omega) hfn (by omega))
  have HR := Lib.hid q1
  have HG := Lib.hid hG
  have HNG := Lib.hid hng
  clear hq h hl ok g q1 q2 q3 q4 hc hzb en ok5 hG hng
  go_enter Tryz.func11, Tryz.ntmps11
  go_wp2_with fail
  refine cF.mono ?_
  clear cF
  rintro e W1 ⟨rfl, b1⟩
  go_wp2_with fail
  refine (cJ W1 b1).mono ?_
  clear cJ
  rintro e W2 (⟨_, v, rfl, own, b2⟩ | ⟨hr, _⟩)
  · obtain ⟨A1, c1, rfl, g1⟩ := own.good
    have hnew := owns_new own
    have b3 := below_more b1 b2 (Nat.le_refl _)
    have cR := cL.out W2 b3 A1 c1 g1 (fun a ha => Nat.le_trans b1.size (hnew a ha))
    have HB := Lib.hid b3
    generalize (joinL rs).length = jl at *
    clear own g1 hnew b1 b2 b3 cL
    go_wp2_with fail
    refine cR.mono ?_
    clear cR
    intro e W3 hd
    obtain ⟨rfl, hd2⟩ := hd
    have HD := Lib.hid hd2
    clear hd2
    go_wp2
    go_ret
    exact rlogDoes_more (v := .tuple #[]) HB.out HG.out hgb HNG.out ⟨rfl, HD.out⟩
  · rw [HR.out] at hr; cases hr
theorem refAppend_no (G : Nat → Prop) (gb rb N : Nat) (st : St) (lg : LogD) (A : Option Addr) (l c : Nat) (rs : List RecD) (spare q : Int) (w : World) (h : RLogAt w G gb rb N st lg) (hN : N ≤ 60) (ok5 : LogOK N lg) (hl : rs.length = l) (hl2 : l ≤ 200) (ok : ∀ r ∈ rs, okR r) (g : GoodR A c rs w) (hs : isI64 spare) (hq : fitsE N lg rs 0 spare = q) (hq0 : q ≠ 0) :
    Calls Tryz.prog 11 #[.pointer (some ⟨gb, 0, none⟩), .slice A l c, .int .i64 spare] w (RLogDoes G gb rb N st lg (.int .i64 q) w) := by
  have cF := refFits G gb rb N st lg A l c 0 rs spare q w h hN ok5 hl hl2 ok g hs (by omega) hq
  have HH := Lib.hid h
  have hqd : (q == 0) = false := by simpa using hq0
  clear h hl ok g hq ok5
  go_enter Tryz.func11, Tryz.ntmps11
  go_wp2_with fail
  refine cF.mono ?_
  clear cF
  rintro e W1 ⟨rfl, b1⟩
  go_wp2
  go_ret
  exact rlogDoes_same HH.out b1
theorem rlogDoes_mk {G G' : Nat → Prop} {gb rb N : Nat} {st : St} {lg : LogD} {v : Value} {w W : World} (ha : RLogAt W G' gb rb N st lg) (hg : ∀ x, G' x → G x ∨ w.heap.size ≤ x) (hm : Moves (fun x => G x ∨ x = gb) w W) (hG : ∀ x, G x → x < w.heap.size) (hgb : gb < w.heap.size) (hng : ¬ G gb) : RLogDoes G gb rb N st lg v w (.returned v) W := by
  refine ⟨rfl, ⟨ha.log, ha.disk.more (fun x hx => ?_) ?_, not_grow hng hgb⟩, hm⟩
  · rcases hg x hx with y | y
    · exact .inl y
    · exact .inr ⟨y, ha.disk.lt x hx⟩
  · rintro x (y | y)
    · exact Nat.lt_of_lt_of_le (hG x y) hm.size
    · exact y.2
theorem RLogAt.first_set {w : World} {G : Nat → Prop} {gb rb N : Nat} {st : St} {next first sure : Nat} (h : RLogAt w G gb rb N st ⟨next, first, sure⟩) (x : Nat) : RLogAt (w.setCell ⟨gb, 2, none⟩ (.int .i64 (x : Int))) G gb rb N st ⟨next, x, sure⟩ := by
  have hm : Moves (fun k => k = gb) w (w.setCell ⟨gb, 2, none⟩ (.int .i64 (x : Int))) := moves_setCell _ _ _ _ rfl
  exact ⟨h.log.first_set x, h.disk.moves hm (fun k hk e => h.apart (e ▸ hk)), h.apart⟩
set_option maxRecDepth 100000 in
set_option maxHeartbeats 2000000 in
theorem refCheck (G : Nat → Prop) (gb rb N : Nat) (st : St) (lg : LogD) (A : Option Addr) (l c : Nat) (rs : List RecD) (spare : Int) (w : World) (h : RLogAt w G gb rb N st lg) (hN1 : 1 ≤ N) (hN : N ≤ 60) (ok5 : LogOK N lg) (hl : rs.length = l) (hl2 : l ≤ 200) (ok : ∀ r ∈ rs, okR r) (g : GoodR A c rs w) (hs : isI64 spare) (hc : st.cache.length + nOf rs + 1 ≤ 999) (hq : fitsE N lg rs 1 spare = 0) :
    Calls Tryz.prog 15 #[.pointer (some ⟨gb, 0, none⟩), .slice A l c, .int .i64 spare] w (RLogDoes G gb rb N (chkS N lg st rs) (chkL lg rs) (.int .i64 0) w) := by
  have cF := refFits G gb rb N st lg A l c 1 rs spare 0 w h hN ok5 hl hl2 ok g hs (by omega) hq
  obtain ⟨q1, q2, q3, q4⟩ := fits_ok hq
  have hzb := rights_bytes (rightL_of q1 ok)
  have hjl := joinL_le rs
  rw [hl] at hjl
  have en : nOf rs = secsN (joinL rs) := rfl
  have cJ := fun W (hW : Below w.heap.size w W) => refJoin_any A l c rs hl hl2 ok W (g.below hW)
  have hG := h.disk.lt
  have hgb := h.log.lt
  have hng := h.apart
  have hn1 : 1 ≤ lg.next := Nat.le_trans ok5.one ok5.first
  have hfn := ok5.first
  have hnn : lg.next + secsN (joinL rs) + 1 ≤ 4294967296 := by omega
  have hcc : st.cache.length + secsN (joinL rs) + 1 ≤ 999 := hc
  have cL := Lib.hid (fun (W : World) (hW : Below w.heap.size w W) (A1 : Option Addr) (c1 : Nat) (g1 : Good A1 c1 (joinL rs) W) (hA1 : ∀ a, A1 = some a → w.heap.size ≤ a.block) => refLay G gb rb N st lg.next lg.first lg.sure A1 (joinL rs).length c1 (joinL rs) W (h.below hW) hN1 hN rfl (by omega) hzb g1 (fun a ha hf => by have := hA1 a ha; rcases hf with y | y <;> first | (have := hG _ y; omega) | omega) hn1 (by omega) hfn (by omega))
  have hk1 := h.log.c1
  have e1 : (⟨st.safe, (st.cache ++ puts N (laySecs lg.next lg.first (joinL rs))) ++ puts N [⟨lg.next + secsN (joinL rs), lg.next, [], true⟩]⟩ : St) = chkS N lg st rs := by
    unfold chkS chkSecs
    rw [puts_append, List.append_assoc]
    simp [puts, en]
  have HE1 := Lib.hid e1
  have HR := Lib.hid q1
  have HG := Lib.hid hG
  have HNG := Lib.hid hng
  have hcl : (st.cache ++ puts N (laySecs lg.next lg.first (joinL rs))).length = st.cache.length + secsN (joinL rs) := by rw [List.length_append, puts_length, laySecs_length]
  obtain ⟨next, first, sure⟩ := lg
  simp only at *
  clear hq h hl ok g q1 q2 q3 q4 hc hzb ok5 hG hng e1
  go_enter Tryz.func15, Tryz.ntmps15
  go_wp2_with fail
  refine cF.mono ?_
  clear cF
  rintro e W1 ⟨rfl, b1⟩
  have k1 := (b1.cell (p := ⟨gb, 1, none⟩) hgb).trans hk1
  go_wp2_with fail
  refine (cJ W1 b1).mono ?_
  clear cJ
  rintro e W2 (⟨_, v, rfl, own, b2⟩ | ⟨hr, _⟩)
  · obtain ⟨A1, c1, rfl, g1⟩ := own.good
    have hnew := owns_new own
    have b3 := below_more b1 b2 (Nat.le_refl _)
    have cR := cL.out W2 b3 A1 c1 g1 (fun a ha => Nat.le_trans b1.size (hnew a ha))
    have HB := Lib.hid b3
    generalize laySecs next first (joinL rs) = ss at *
    obtain ⟨m, hm⟩ : ∃ m, secsN (joinL rs) = m := ⟨_, rfl⟩
    rw [hm] at cR hcc hnn HE1 hcl en
    generalize (joinL rs).length = jl at *
    clear own g1 hnew b1 b2 b3 cL k1 hk1 hm
    go_wp2_with fail
    refine cR.mono ?_
    clear cR
    rintro e W3 ⟨rfl, ha3, hm3⟩
    have k2 := ha3.log.c2
    have k3 := ha3.log.fz 2
    have h4 := ha3.first_set next
    have HA3 := Lib.hid ha3
    have HM3 := Lib.hid hm3
    simp only at k2
    clear ha3 hm3
    go_wp2_with fail
    have hm4 : Moves (fun k => k = gb) W3 (W3.setCell ⟨gb, 2, none⟩ (.int .i64 (next : Int))) := moves_setCell _ _ _ _ rfl
    have hs4 : (W3.setCell ⟨gb, 2, none⟩ (.int .i64 (next : Int))).heap.size = W3.heap.size := by simp
    have HM4 := Lib.hid hm4
    have HS4 := Lib.hid hs4
    clear hm4 hs4
    generalize W3.setCell ⟨gb, 2, none⟩ (.int .i64 (next : Int)) = W4 at *
    obtain ⟨nk, hnk⟩ : ∃ nk, next + m = nk := ⟨_, rfl⟩
    rw [hnk] at h4 hnn HE1
    obtain ⟨G', hG'⟩ : ∃ G', grow G W2 W3 = G' := ⟨_, rfl⟩
    rw [hG'] at h4
    have hgg : ∀ x, G' x → G x ∨ w.heap.size ≤ x := fun x hx => by
      rw [← hG'] at hx
      rcases hx with y | y
      · exact .inl y
      · exact .inr (Nat.le_trans HB.out.size y.1)
    have okk : okS ⟨nk, next, [], true⟩ := ⟨by show nk < _; omega, by show next < _; omega, Nat.zero_le _, fun z hz => by cases hz⟩
    have hT := LayT.start [(⟨nk, next, [], true⟩ : Sec)] h4
    obtain ⟨sb, capN, r0⟩ := safe_cell h4.disk
    obtain ⟨i, hi⟩ : ∃ i, placeOf N nk = i := ⟨_, rfl⟩
    have hiN : i < N := by rw [← hi]; exact placeOf_lt N nk (by omega)
    have him : ((nk : Int) - 1) % (N : Int) = (i : Int) := by rw [← hi, show (nk : Int) - 1 = ((nk - 1 : Nat) : Int) by omega]; exact (Int.natCast_emod _ _).symm
    have hN0 : ((N : Int) == 0) = false := by simp; omega
    have hnz : ¬ (N : Int) = 0 := by omega
    have hp0 : (0 : Int) ≤ (nk : Int) - 1 := by omega
    have htm : ((nk : Int) - 1).tmod (N : Int) = (i : Int) := by rw [Int.tmod_eq_emod_of_nonneg hp0]; exact him
    have hnz2 : ¬ N = 0 := by omega
    have hwr : IntKind.i64.wrap ((nk : Int) - 1) = (nk : Int) - 1 := IntWalk.i64_in _ (by omega)
    have c0 := h4.log.c0
    have c1 := h4.log.c1
    have c2 := h4.log.c2
    simp only at c1 c2
    have hglt := h4.log.lt
    have hrlt : rb < W4.heap.size := World.block_lt_of_cell? W4 _ r0
    have cS := fun (W : World) => refSector ⟨nk, next, [], true⟩ okk none 0 0 _ rfl rfl W (Good.nil W)
    simp only at cS
    have HLN := Lib.hid (secL_length okk)
    have cW := fun W (hW : Below W4.heap.size W4 W) (Ab : Option Addr) (cb : Nat) gW => rwrite_in G' rb N i _ Ab cb (secL ⟨nk, next, [], true⟩) W (h4.disk.below hW) hiN HLN.out gW (by show (st.cache ++ puts N ss).length ≤ 999; omega)
    have HSTEP := Lib.hid (fun (V V2 : World) (hb : Below W4.heap.size W4 V) hd hm => LayT.step (ss := [(⟨nk, next, [], true⟩ : Sec)]) (V := V) (V2 := V2) (k := 0) Nat.zero_lt_one rfl hT (fun x hx => .inl hx) (by have h5 := h4.below hb; simpa [puts] using h5) hb hglt hd hm)
    simp only [List.getElem_cons_zero, List.take_zero, puts, List.map_nil, List.append_nil, Nat.add_zero, hi] at HSTEP
    have kS : ∀ W, Below W4.heap.size W4 W → (W.cell? ⟨gb, 0, none⟩ = some (.pointer (some ⟨rb, 0, none⟩)) ∧ W.cell? ⟨gb, 1, none⟩ = some (.int .i64 nk) ∧ W.cell? ⟨gb, 2, none⟩ = some (.int .i64 next) ∧ W.cell? ⟨rb, 0, none⟩ = some (.slice (some ⟨sb, 0, none⟩) N capN)) := fun W hb => ⟨(hb.cell (p := ⟨gb, 0, none⟩) hglt).trans c0, (hb.cell (p := ⟨gb, 1, none⟩) hglt).trans c1, (hb.cell (p := ⟨gb, 2, none⟩) hglt).trans c2, (hb.cell (p := ⟨rb, 0, none⟩) hrlt).trans r0⟩
    have KS := Lib.hid kS
    have LayS := Lib.hid (show ∀ V V2 : World, Below W4.heap.size W4 V → Moves G' V V2 → V2.cell? ⟨rb, 0, none⟩ = V.cell? ⟨rb, 0, none⟩ → (V2.cell? ⟨gb, 0, none⟩ = some (.pointer (some ⟨rb, 0, none⟩)) ∧ V2.cell? ⟨gb, 1, none⟩ = some (.int .i64 nk) ∧ V2.cell? ⟨gb, 2, none⟩ = some (.int .i64 next) ∧ V2.cell? ⟨rb, 0, none⟩ = some (.slice (some ⟨sb, 0, none⟩) N capN)) from fun V V2 hb hm hz => by
      have eb := hm.block gb (Nat.lt_of_lt_of_le hglt hb.size) h4.apart
      obtain ⟨q0, q1, q2, q3⟩ := kS V hb
      exact ⟨(World.cell?_of_block (a := ⟨gb, 0, none⟩) eb).trans q0, (World.cell?_of_block (a := ⟨gb, 1, none⟩) eb).trans q1, (World.cell?_of_block (a := ⟨gb, 2, none⟩) eb).trans q2, hz.trans q3⟩)
    have HFZ := Lib.hid (show ∀ V V2 : World, Below W4.heap.size W4 V → Moves G' V V2 → V2.frozen? ⟨gb, 1, none⟩ = false from fun V V2 hb hm => by
      have eb := hm.block gb (Nat.lt_of_lt_of_le hglt hb.size) h4.apart
      exact (World.frozen?_of_block (a := ⟨gb, 1, none⟩) eb).trans ((hb.frozen (p := ⟨gb, 1, none⟩) hglt).trans (h4.log.fz 1)))
    have kd : Below W4.heap.size W4 W4.drew := (Below.refl _ _).drew
    have hnkb : nk ≤ 4294967296 := by omega
    have HH4 := Lib.hid h4
    have HNK := Lib.hid hnk
    have HGG := Lib.hid hgg
    have HEN := Lib.hid en
    clear kS h4 okk him hT hnk hi hG' hgg en
    go_region_held3 (fun W => W.cell? ⟨gb, 0, none⟩ = some (.pointer (some ⟨rb, 0, none⟩)) ∧ W.cell? ⟨gb, 1, none⟩ = some (.int .i64 nk) ∧ W.cell? ⟨gb, 2, none⟩ = some (.int .i64 next) ∧ W.cell? ⟨rb, 0, none⟩ = some (.slice (some ⟨sb, 0, none⟩) N capN)) (first | assumption | exact KS.out _ kd | exact KS.out _ z1) (first
      | (go_at_call 47; (with_reducible refine (cS _).mono ?_); rintro e V ⟨vb, rfl, ob1, k1⟩; obtain ⟨Ab, cb, rfl, g1⟩ := ob1.good; rw [HLN.out]; have z1 : Below W4.heap.size W4 V := kd.trans k1)
      | (go_at_call 20; (with_reducible refine (cW _ z1 Ab cb g1).mono ?_); rintro e V2 ⟨⟨rfl, hd2, hm2⟩, hz2⟩; have hS2 := LayS.out V V2 z1 hm2 hz2))
    have hstep := Lib.hid (HSTEP.out V V2 z1 hd2 hm2)
    have q1 := hS2.2.1
    have q2 := HFZ.out V V2 z1 hm2
    clear hS2 hd2 hm2 hz2 g1 ob1 k1 z1 cS cW LayS HSTEP KS kd
    go_wp2
    go_ret
    have hst := hstep.out
    rw [show ((nk : Int) + ((0 : Nat) : Int) + 1) = (nk : Int) + 1 by omega] at hst
    obtain ⟨G5, ha5, hg5⟩ := hst.at_
    have hmv5 := hst.mv
    have hle : chkL ⟨next, first, sure⟩ rs = ⟨nk + 1, next, sure⟩ := by unfold chkL; rw [HEN.out]; simp only; rw [HNK.out]
    have z1 := HB.out.size
    have z2 := HM3.out.size
    have z3 := HM4.out.size
    rw [hle, ← HE1.out]
    refine rlogDoes_mk (G' := G5) ha5 (fun x hx => ?_) ?_ HG.out hgb HNG.out
    · rcases hg5 x hx with y | y
      · exact HGG.out x y
      · exact .inr (by omega)
    · refine (((moves_of_below (F := fun x => G x ∨ x = gb) HB.out).trans HM3.out (fun _ x => .inl x)).trans HM4.out (fun x hx => .inl (.inr hx))).trans hmv5 (fun x hx => ?_)
      rcases hx with y | y
      · rcases HGG.out x y with z | z
        · exact .inl (.inl z)
        · exact .inr z
      · exact .inl (.inr y)
  · rw [HR.out] at hr; cases hr
theorem refCheck_no (G : Nat → Prop) (gb rb N : Nat) (st : St) (lg : LogD) (A : Option Addr) (l c : Nat) (rs : List RecD) (spare q : Int) (w : World) (h : RLogAt w G gb rb N st lg) (hN : N ≤ 60) (ok5 : LogOK N lg) (hl : rs.length = l) (hl2 : l ≤ 200) (ok : ∀ r ∈ rs, okR r) (g : GoodR A c rs w) (hs : isI64 spare) (hq : fitsE N lg rs 1 spare = q) (hq0 : q ≠ 0) :
    Calls Tryz.prog 15 #[.pointer (some ⟨gb, 0, none⟩), .slice A l c, .int .i64 spare] w (RLogDoes G gb rb N st lg (.int .i64 q) w) := by
  have cF := refFits G gb rb N st lg A l c 1 rs spare q w h hN ok5 hl hl2 ok g hs (by omega) hq
  have HH := Lib.hid h
  have hqd : (q == 0) = false := by simpa using hq0
  clear h hl ok g hq ok5
  go_enter Tryz.func15, Tryz.ntmps15
  go_wp2_with fail
  refine cF.mono ?_
  clear cF
  rintro e W1 ⟨rfl, b1⟩
  go_wp2
  go_ret
  exact rlogDoes_same HH.out b1
end Go.Proofs.YtdmkkfpbgpijjaaGreat
namespace Go.Proofs.YtdmkkfpbgpijjaaGreat
open Go.RowKit Go.Deep Go.Maps
attribute [local go_sem ↓] Go.wp_at_zero Go.wp_at_succ

/-- A disk and the document's, with no block in common, and none of X's. -/
def Both (B : Nat) (w0 : World) (X : Nat → Prop) (w : World) (db rb n : Nat) (sd sr : St) : Prop := ∃ F G, DiskAt w F db n sd ∧ RefAt w G rb n sr ∧ (∀ k, F k → ¬ G k) ∧ (∀ k, F k → B ≤ k) ∧ (∀ k, G k → B ≤ k) ∧ (∀ k, X k → ¬ F k ∧ ¬ G k ∧ k < w.heap.size) ∧ Below B w0 w ∧ B ≤ w.heap.size
theorem Both.frame {B : Nat} {w0 w : World} {X : Nat → Prop} {db rb n : Nat} {sd sr : St} (h : Both B w0 X w db rb n sd sr) : Below B w0 w ∧ B ≤ w.heap.size := by
  obtain ⟨F, G, h1, h2, h3, h4, h5, h6, h7, h8⟩ := h; exact ⟨h7, h8⟩
theorem Both.wf {B : Nat} {w0 w : World} {X : Nat → Prop} {db rb n : Nat} {sd sr : St} (h : Both B w0 X w db rb n sd sr) : Wf n sd := by
  obtain ⟨F, G, h1, h2, h3, h4, h5, h6, h7, h8⟩ := h; exact h1.wf
theorem Both.below {B : Nat} {w0 w w' : World} {X : Nat → Prop} {db rb n : Nat} {sd sr : St} (h : Both B w0 X w db rb n sd sr) (hb : Below w.heap.size w w') : Both B w0 X w' db rb n sd sr := by
  obtain ⟨F, G, h1, h2, h3, h4, h5, h6, h7, h8⟩ := h
  exact ⟨F, G, h1.below hb, h2.below hb, h3, h4, h5, fun k hk => ⟨(h6 k hk).1, (h6 k hk).2.1, Nat.lt_of_lt_of_le (h6 k hk).2.2 hb.size⟩, h7.trans (hb.mono h8), Nat.le_trans h8 hb.size⟩
/-- What is new may be X's, too. -/
theorem Both.fresh {B : Nat} {w0 w w' : World} {X X' : Nat → Prop} {db rb n : Nat} {sd sr : St} (h : Both B w0 X w db rb n sd sr) (hb : Below w.heap.size w w') (hX : ∀ k, X' k → w.heap.size ≤ k ∧ k < w'.heap.size) : Both B w0 X' w' db rb n sd sr := by
  obtain ⟨F, G, h1, h2, h3, h4, h5, h6, h7, h8⟩ := h
  exact ⟨F, G, h1.below hb, h2.below hb, h3, h4, h5, fun k hk => ⟨fun e => by have := h1.lt k e; have := (hX k hk).1; omega, fun e => by have := h2.lt k e; have := (hX k hk).1; omega, (hX k hk).2⟩, h7.trans (hb.mono h8), Nat.le_trans h8 hb.size⟩
theorem Both.other {B : Nat} {w0 w w' : World} {X M : Nat → Prop} {db rb n : Nat} {sd sr : St} (h : Both B w0 X w db rb n sd sr) (hm : Moves M w w') (hM : ∀ k, M k → X k ∧ B ≤ k) : Both B w0 X w' db rb n sd sr := by
  obtain ⟨F, G, h1, h2, h3, h4, h5, h6, h7, h8⟩ := h
  exact ⟨F, G, h1.moves hm (fun k hk e => (h6 k (hM k e).1).1 hk), h2.moves hm (fun k hk e => (h6 k (hM k e).1).2.1 hk), h3, h4, h5, fun k hk => ⟨(h6 k hk).1, (h6 k hk).2.1, Nat.lt_of_lt_of_le (h6 k hk).2.2 hm.size⟩, h7.trans (hm.below h8 (fun k e => (hM k e).2)), Nat.le_trans h8 hm.size⟩
theorem both_d {B : Nat} {w0 w : World} {X : Nat → Prop} {db rb n : Nat} {sd sd' sr : St} {f : FuncId} {args : Array Value} {v : Value} (h : Both B w0 X w db rb n sd sr) (hc : ∀ F, DiskAt w F db n sd → Calls Tryz.prog f args w (Does F db n sd' v w)) :
    Calls Tryz.prog f args w fun e w' => e = .returned v ∧ Both B w0 X w' db rb n sd' sr ∧ ∀ k, X k → w'.heap[k]? = w.heap[k]? := by
  obtain ⟨F, G, h1, h2, h3, h4, h5, h6, h7, h8⟩ := h
  refine (hc F h1).mono ?_
  rintro e w' ⟨he, d2, d3⟩
  refine ⟨he, ⟨grow F w w', G, d2, h2.moves d3 (fun k hg hf => h3 k hf hg), ?_, ?_, h5, ?_, h7.trans (d3.below h8 h4), Nat.le_trans h8 d3.size⟩, fun k hk => d3.block k (h6 k hk).2.2 (h6 k hk).1⟩
  · rintro k (hk | hk) hg
    · exact h3 k hk hg
    · have := h2.lt k hg; omega
  · rintro k (hk | hk)
    · exact h4 k hk
    · omega
  · intro k hk
    refine ⟨?_, (h6 k hk).2.1, Nat.lt_of_lt_of_le (h6 k hk).2.2 d3.size⟩
    rintro (e | e)
    · exact (h6 k hk).1 e
    · have := (h6 k hk).2.2; omega
theorem both_r {B : Nat} {w0 w : World} {X : Nat → Prop} {db rb n : Nat} {sd sr sr' : St} {f : FuncId} {args : Array Value} {v : Value} (h : Both B w0 X w db rb n sd sr) (hc : ∀ G, RefAt w G rb n sr → Calls Tryz.prog f args w (RDoes G rb n sr' v w)) :
    Calls Tryz.prog f args w fun e w' => e = .returned v ∧ Both B w0 X w' db rb n sd sr' ∧ ∀ k, X k → w'.heap[k]? = w.heap[k]? := by
  obtain ⟨F, G, h1, h2, h3, h4, h5, h6, h7, h8⟩ := h
  refine (hc G h2).mono ?_
  rintro e w' ⟨he, d2, d3⟩
  refine ⟨he, ⟨F, grow G w w', h1.moves d3 (fun k hf hg => h3 k hf hg), d2, ?_, h4, ?_, ?_, h7.trans (d3.below h8 h5), Nat.le_trans h8 d3.size⟩, fun k hk => d3.block k (h6 k hk).2.2 (h6 k hk).2.1⟩
  · rintro k hf (hk | hk)
    · exact h3 k hf hk
    · have := h1.lt k hf; omega
  · rintro k (hk | hk)
    · exact h5 k hk
    · omega
  · intro k hk
    refine ⟨(h6 k hk).1, ?_, Nat.lt_of_lt_of_le (h6 k hk).2.2 d3.size⟩
    rintro (e | e)
    · exact (h6 k hk).2.1 e
    · have := (h6 k hk).2.2; omega
theorem Both.less {B : Nat} {w0 w : World} {X : Nat → Prop} {db rb n : Nat} {sd sr : St} (h : Both B w0 X w db rb n sd sr) : Both B w0 (fun _ => False) w db rb n sd sr := by
  obtain ⟨F, G, h1, h2, h3, h4, h5, h6, h7, h8⟩ := h
  exact ⟨F, G, h1, h2, h3, h4, h5, fun _ e => e.elim, h7, h8⟩
theorem Both.cells {B : Nat} {w0 w : World} {X : Nat → Prop} {db rb n : Nat} {sd sr : St} (h : Both B w0 X w db rb n sd sr) : ∃ A c, w.cell? ⟨rb, 1, none⟩ = some (.slice A sr.cache.length c) ∧ rb < w.heap.size := by
  obtain ⟨F, G, h1, h2, h3, h4, h5, h6, h7, h8⟩ := h
  obtain ⟨sv, cv, vs, es, h, _⟩ := h2
  obtain ⟨A, c, rfl, _⟩ := row_shape h.crow
  have hl : es.length = sr.cache.length := by rw [← h.same, List.length_map]
  exact ⟨A, c, by rw [← hl]; exact h.r1, h.lt⟩
theorem Both.xlt {B : Nat} {w0 w : World} {X : Nat → Prop} {db rb n : Nat} {sd sr : St} (h : Both B w0 X w db rb n sd sr) : ∀ k, X k → k < w.heap.size := by
  obtain ⟨F, G, h1, h2, h3, h4, h5, h6, h7, h8⟩ := h
  exact fun k hk => (h6 k hk).2.2
end Go.Proofs.YtdmkkfpbgpijjaaGreat

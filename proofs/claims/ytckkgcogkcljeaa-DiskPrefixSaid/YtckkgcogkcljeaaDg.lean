/- disk: Flush, Crash. -/
import Derived.Test.YtckkgcogkcljeaaDf
namespace Go.Proofs.Ytckkgcogkcljeaa
open Go.RowKit Go.Deep Go.Maps

theorem row_shape {w : World} {e : TypeId} {size : Nat} {v : Value} {n : Nat} {xs : List Value} (h : w.ownsRow 0 e size v n xs) : ∃ A c, v = .slice A n c ∧ n ≤ c := by
  rcases h.2 with ⟨rfl, rfl⟩ | ⟨g, cap, cur, rfl, _, _, hc, _⟩
  · exact ⟨none, 0, rfl, Nat.le_refl _⟩
  · exact ⟨_, cap, rfl, hc⟩
/-- A call that turns a disk, and nothing else that was there. -/
def Does (F : Nat → Prop) (db n : Nat) (st : St) (v : Value) (w : World) (e : Ending) (w' : World) : Prop := e = .returned v ∧ DiskAt w' (grow F w w') db n st ∧ Moves F w w'
theorem does_mk {F : Nat → Prop} {db lb mb n : Nat} {cv : Value} {st : St} {v : Value} {w w' : World} (h : DiskIn w' db lb mb cv n st) (hm : Moves F w w') (f0 : F db) (f1 : F lb) (f2 : F mb) (f3 : ∀ k, cv.ownBlock = some k → F k ∨ w.heap.size ≤ k) (f4 : ∀ k, F k → k < w.heap.size) : Does F db n st v w (.returned v) w' := by
  refine ⟨rfl, ⟨lb, mb, cv, h, .inl f0, .inl f1, .inl f2, fun k hk => (f3 k hk).elim .inl (fun g => .inr ⟨g, (h.row.lt k hk).2⟩), ?_⟩, hm⟩
  rintro k (hk | hk)
  · exact Nat.lt_of_lt_of_le (f4 k hk) hm.size
  · exact hk.2
set_option maxHeartbeats 1000000 in
theorem flush_any (F : Nat → Prop) (db n : Nat) (st : St) (w : World) (h : DiskAt w F db n st) (hc : st.cache.length ≤ 1000) :
    Calls Try.prog 17 #[.pointer (some ⟨db, 0, none⟩)] w (Does F db n (flushS st) (.tuple #[]) w) := by
  obtain ⟨lb, mb, cv, h, f0, f1, f2, f3, f4⟩ := h
  obtain ⟨A, c, rfl, _⟩ := row_shape h.row
  have c1 := h.c1
  go_enter Try.func17, Try.ntmps17
  go_wp2_with fail
  refine (carry_any db lb mb _ n st A _ c w h ⟨_, _, rfl⟩ (Nat.le_refl _) hc).mono ?_
  rintro e w1 ⟨rfl, h1, m1⟩
  have H1 := Lib.hid h1
  have M1 := Lib.hid m1
  clear h1 m1
  go_wp2_with fail
  refine (empty_any db lb mb _ n _ w1 H1.out).mono ?_
  rintro e w2 ⟨rfl, h2, m2⟩
  have H2 := Lib.hid h2
  have M2 := Lib.hid m2
  clear h2 m2
  go_wp2
  go_end0
  have h2 := H2.out
  rw [List.take_length] at h2
  exact does_mk h2 ((M1.out.mono (fun _ e => e ▸ f1)).trans (M2.out.mono (fun k (e : k = db ∨ k = mb) => (e.elim (fun x => x ▸ f0) (fun x => x ▸ f2) : F k))) (fun _ e => .inl e)) f0 f1 f2 (fun k hk => by cases hk) f4
theorem crash_all_eq (st : St) (keep tear : Int) (h : keptOf keep st.cache.length = st.cache.length) : crashS st keep tear = flushS st := by
  unfold crashS crashL flushS nows
  rw [h, List.getElem?_eq_none (Nat.le_refl _)]
theorem crash_some_eq (st : St) (keep tear : Int) (k : Nat) (p : Nat × List Int) (h : keptOf keep st.cache.length = k) (hp : st.cache[k]? = some p) : crashS st keep tear = { safe := tornS (carry st.safe (st.cache.take k)) p (tearOf tear), cache := [] } := by
  unfold crashS crashL
  rw [h, hp]
set_option maxRecDepth 100000 in
set_option maxHeartbeats 1000000 in
theorem crash_all (F : Nat → Prop) (db n : Nat) (st : St) (keep tear : Int) (w : World) (h : DiskAt w F db n st) (hc : st.cache.length ≤ 1000) (hk : (st.cache.length : Int) < keep) :
    Calls Try.prog 19 #[.pointer (some ⟨db, 0, none⟩), .int .i64 keep, .int .i64 tear] w (Does F db n (crashS st keep tear) (.tuple #[]) w) := by
  obtain ⟨lb, mb, cv, h, f0, f1, f2, f3, f4⟩ := h
  obtain ⟨A, c, rfl, hcl⟩ := row_shape h.row
  rw [crash_all_eq st keep tear (by unfold keptOf; omega)]
  have c1 := h.c1
  skip
  go_enter Try.func19, Try.ntmps19
  go_wp2_with fail
  refine (carry_any db lb mb _ n st A _ c w h ⟨_, _, rfl⟩ (Nat.le_refl _) hc).mono ?_
  rintro e w1 ⟨rfl, h1, m1⟩
  have H1 := Lib.hid h1
  have M1 := Lib.hid m1
  have c1b := h1.c1
  clear h1 m1
  go_wp2_with fail
  refine (empty_any db lb mb _ n _ w1 H1.out).mono ?_
  rintro e w2 ⟨rfl, h2, m2⟩
  have H2 := Lib.hid h2
  have M2 := Lib.hid m2
  clear h2 m2
  go_wp2
  go_end0
  have h2 := H2.out
  rw [List.take_length] at h2
  exact does_mk h2 ((M1.out.mono (fun _ e => e ▸ f1)).trans (M2.out.mono (fun k (e : k = db ∨ k = mb) => (e.elim (fun x => x ▸ f0) (fun x => x ▸ f2) : F k))) (fun _ e => .inl e)) f0 f1 f2 (fun k hk => by cases hk) f4
set_option maxRecDepth 100000 in
set_option maxHeartbeats 1000000 in
theorem crash_same (F : Nat → Prop) (db n : Nat) (st : St) (keep tear : Int) (w : World) (h : DiskAt w F db n st) (hc : st.cache.length ≤ 1000) (hk : keep = (st.cache.length : Int)) :
    Calls Try.prog 19 #[.pointer (some ⟨db, 0, none⟩), .int .i64 keep, .int .i64 tear] w (Does F db n (crashS st keep tear) (.tuple #[]) w) := by
  obtain ⟨lb, mb, cv, h, f0, f1, f2, f3, f4⟩ := h
  obtain ⟨A, c, rfl, hcl⟩ := row_shape h.row
  rw [crash_all_eq st keep tear (by unfold keptOf; omega)]
  have c1 := h.c1
  subst hk
  go_enter Try.func19, Try.ntmps19
  go_wp2_with fail
  refine (carry_any db lb mb _ n st A _ c w h ⟨_, _, rfl⟩ (Nat.le_refl _) hc).mono ?_
  rintro e w1 ⟨rfl, h1, m1⟩
  have H1 := Lib.hid h1
  have M1 := Lib.hid m1
  have c1b := h1.c1
  clear h1 m1
  go_wp2_with fail
  refine (empty_any db lb mb _ n _ w1 H1.out).mono ?_
  rintro e w2 ⟨rfl, h2, m2⟩
  have H2 := Lib.hid h2
  have M2 := Lib.hid m2
  clear h2 m2
  go_wp2
  go_end0
  have h2 := H2.out
  rw [List.take_length] at h2
  exact does_mk h2 ((M1.out.mono (fun _ e => e ▸ f1)).trans (M2.out.mono (fun k (e : k = db ∨ k = mb) => (e.elim (fun x => x ▸ f0) (fun x => x ▸ f2) : F k))) (fun _ e => .inl e)) f0 f1 f2 (fun k hk => by cases hk) f4
set_option maxRecDepth 100000 in
set_option maxHeartbeats 1000000 in
theorem crash_none (F : Nat → Prop) (db n : Nat) (sf : List (List Int)) (keep tear : Int) (w : World) (h : DiskAt w F db n ⟨sf, []⟩) (hk : keep < 0) :
    Calls Try.prog 19 #[.pointer (some ⟨db, 0, none⟩), .int .i64 keep, .int .i64 tear] w (Does F db n (crashS ⟨sf, []⟩ keep tear) (.tuple #[]) w) := by
  obtain ⟨lb, mb, cv, h, f0, f1, f2, f3, f4⟩ := h
  obtain ⟨A, c, rfl, hcl⟩ := row_shape h.row
  rw [crash_all_eq ⟨sf, []⟩ keep tear (by simp [keptOf])]
  have c1 : w.cell? ⟨db, 1, none⟩ = some (.slice A 0 c) := h.c1
  have g1 : (0 : Int) ≤ (c : Int) := by omega
  go_enter Try.func19, Try.ntmps19
  go_wp2_with fail
  refine (carry_any db lb mb _ n ⟨sf, []⟩ A 0 c w h ⟨_, _, rfl⟩ (Nat.zero_le _) (by omega)).mono ?_
  rintro e w1 ⟨rfl, h1, m1⟩
  have H1 := Lib.hid h1
  have M1 := Lib.hid m1
  have c1b : w1.cell? ⟨db, 1, none⟩ = some (.slice A 0 c) := h1.c1
  clear h1 m1
  go_wp2_with fail
  refine (empty_any db lb mb _ n _ w1 H1.out).mono ?_
  rintro e w2 ⟨rfl, h2, m2⟩
  have H2 := Lib.hid h2
  have M2 := Lib.hid m2
  clear h2 m2
  go_wp2
  go_end0
  exact does_mk H2.out ((M1.out.mono (fun _ e => e ▸ f1)).trans (M2.out.mono (fun k (e : k = db ∨ k = mb) => (e.elim (fun x => x ▸ f0) (fun x => x ▸ f2) : F k))) (fun _ e => .inl e)) f0 f1 f2 (fun k hk => by cases hk) f4
set_option maxRecDepth 100000 in
set_option maxHeartbeats 1000000 in
theorem crash_some (F : Nat → Prop) (db n : Nat) (st : St) (kk' : Nat) (keep tear : Int) (w : World) (h : DiskAt w F db n st) (hc : st.cache.length ≤ 1000) (hk : keep = kk') (hkl : kk' < st.cache.length) :
    Calls Try.prog 19 #[.pointer (some ⟨db, 0, none⟩), .int .i64 keep, .int .i64 tear] w (Does F db n (crashS st keep tear) (.tuple #[]) w) := by
  obtain ⟨lb, mb, cv, h, f0, f1, f2, f3, f4⟩ := h
  obtain ⟨A, c, rfl, hcl⟩ := row_shape h.row
  have hp : st.cache[kk']? = some st.cache[kk'] := List.getElem?_eq_getElem hkl
  have hmem := List.mem_of_getElem? hp
  generalize st.cache[kk'] = p at *
  have hp1 := h.wf.at_ p hmem
  have hp2 := h.wf.has p hmem
  rw [crash_some_eq st keep tear kk' p (by unfold keptOf; omega) hp]
  have c1 := h.c1
  subst hk
  have HP := Lib.hid hp
  have HP2 := Lib.hid hp2
  clear hp hmem hp2
  have g0 : (kk' : Int) < (st.cache.length : Int) := by omega
  have g1 : (kk' : Int) ≤ (c : Int) := by omega
  go_enter Try.func19, Try.ntmps19
  go_wp2_with fail
  refine (carry_any db lb mb _ n st A kk' c w h ⟨_, _, rfl⟩ (by omega) (by omega)).mono ?_
  rintro e w1 ⟨rfl, h1, m1⟩
  have H1 := Lib.hid h1
  have M1 := Lib.hid m1
  have c1b := h1.c1
  obtain ⟨cb, cap, hv, _, hcbl⟩ := h1.row.form (by show 0 < st.cache.length; omega)
  obtain rfl : A = some ⟨cb, 0, none⟩ := by injection hv
  have hR := Lib.hid (row_range h1.row rfl h1.wf.has HP.out)
  have hc33 := Lib.hid (wrC_len p HP2.out)
  clear h1 m1 hv
  go_wp2_with (first | (refine wpList_load_mid rfl 63 (.tmp 36) rfl cb (kk' * 33) rfl (wrC p) _ hR.out Try.underlying63 rfl (by rw [hc33.out]; exact size_wr) ?_))
  refine (torn_any db lb mb _ n _ p.1 p.2 (tearOf tear) tear w1 H1.out hp1 HP2.out rfl).mono ?_
  rintro e w2 ⟨rfl, h2, m2⟩
  have H2 := Lib.hid h2
  have M2 := Lib.hid m2
  clear h2 m2
  go_wp2_with fail
  refine (empty_any db lb mb _ n _ w2 H2.out).mono ?_
  rintro e w3 ⟨rfl, h3, m3⟩
  have H3 := Lib.hid h3
  have M3 := Lib.hid m3
  clear h3 m3
  go_wp2
  go_end0
  exact does_mk H3.out (((M1.out.mono (fun _ e => e ▸ f1)).trans (M2.out.mono (fun _ e => (e ▸ f1 : F _))) (fun _ e => .inl e)).trans (M3.out.mono (fun k (e : k = db ∨ k = mb) => (e.elim (fun x => x ▸ f0) (fun x => x ▸ f2) : F k))) (fun _ e => .inl e)) f0 f1 f2 (fun k hk => by cases hk) f4
set_option maxRecDepth 100000 in
set_option maxHeartbeats 1000000 in
theorem crash_low (F : Nat → Prop) (db n : Nat) (st : St)  (keep tear : Int) (w : World) (h : DiskAt w F db n st) (hc : st.cache.length ≤ 1000) (hk : keep < 0) (hkl : 0 < st.cache.length) :
    Calls Try.prog 19 #[.pointer (some ⟨db, 0, none⟩), .int .i64 keep, .int .i64 tear] w (Does F db n (crashS st keep tear) (.tuple #[]) w) := by
  obtain ⟨lb, mb, cv, h, f0, f1, f2, f3, f4⟩ := h
  obtain ⟨A, c, rfl, hcl⟩ := row_shape h.row
  have hp : st.cache[0]? = some st.cache[0] := List.getElem?_eq_getElem hkl
  have hmem := List.mem_of_getElem? hp
  generalize st.cache[0] = p at *
  have hp1 := h.wf.at_ p hmem
  have hp2 := h.wf.has p hmem
  rw [crash_some_eq st keep tear 0 p (by unfold keptOf; omega) hp]
  have c1 := h.c1
  skip
  have HP := Lib.hid hp
  have HP2 := Lib.hid hp2
  clear hp hmem hp2
  have g0 : (0 : Int) < (st.cache.length : Int) := by omega
  have g1 : (0 : Int) ≤ (c : Int) := by omega
  go_enter Try.func19, Try.ntmps19
  go_wp2_with fail
  refine (carry_any db lb mb _ n st A 0 c w h ⟨_, _, rfl⟩ (by omega) (by omega)).mono ?_
  rintro e w1 ⟨rfl, h1, m1⟩
  have H1 := Lib.hid h1
  have M1 := Lib.hid m1
  have c1b := h1.c1
  obtain ⟨cb, cap, hv, _, hcbl⟩ := h1.row.form (by show 0 < st.cache.length; omega)
  obtain rfl : A = some ⟨cb, 0, none⟩ := by injection hv
  have hR := Lib.hid (row_range h1.row rfl h1.wf.has HP.out)
  have hc33 := Lib.hid (wrC_len p HP2.out)
  clear h1 m1 hv
  go_wp2_with (first | (refine wpList_load_mid rfl 63 (.tmp 36) rfl cb 0 rfl (wrC p) _ hR.out Try.underlying63 rfl (by rw [hc33.out]; exact size_wr) ?_))
  refine (torn_any db lb mb _ n _ p.1 p.2 (tearOf tear) tear w1 H1.out hp1 HP2.out rfl).mono ?_
  rintro e w2 ⟨rfl, h2, m2⟩
  have H2 := Lib.hid h2
  have M2 := Lib.hid m2
  clear h2 m2
  go_wp2_with fail
  refine (empty_any db lb mb _ n _ w2 H2.out).mono ?_
  rintro e w3 ⟨rfl, h3, m3⟩
  have H3 := Lib.hid h3
  have M3 := Lib.hid m3
  clear h3 m3
  go_wp2
  go_end0
  exact does_mk H3.out (((M1.out.mono (fun _ e => e ▸ f1)).trans (M2.out.mono (fun _ e => (e ▸ f1 : F _))) (fun _ e => .inl e)).trans (M3.out.mono (fun k (e : k = db ∨ k = mb) => (e.elim (fun x => x ▸ f0) (fun x => x ▸ f2) : F k))) (fun _ e => .inl e)) f0 f1 f2 (fun k hk => by cases hk) f4
theorem crash_any (F : Nat → Prop) (db n : Nat) (st : St) (keep tear : Int) (w : World) (h : DiskAt w F db n st) (hc : st.cache.length ≤ 1000) :
    Calls Try.prog 19 #[.pointer (some ⟨db, 0, none⟩), .int .i64 keep, .int .i64 tear] w (Does F db n (crashS st keep tear) (.tuple #[]) w) := by
  by_cases h0 : keep < 0
  · by_cases h1 : st.cache.length = 0
    · obtain ⟨sf, ca⟩ := st
      obtain rfl : ca = [] := List.eq_nil_of_length_eq_zero h1
      exact crash_none F db n sf keep tear w h h0
    · exact crash_low F db n st keep tear w h hc h0 (by omega)
  · by_cases h1 : (st.cache.length : Int) < keep
    · exact crash_all F db n st keep tear w h hc h1
    · by_cases h2 : keep = (st.cache.length : Int)
      · exact crash_same F db n st keep tear w h hc h2
      · exact crash_some F db n st keep.toNat keep tear w h hc (by omega) (by omega)
end Go.Proofs.Ytckkgcogkcljeaa

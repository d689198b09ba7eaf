/- wal: the sector with the greatest number (lastOf); the sectors from the first that counts up to it (countingOf). wal: rows of sectors and their records (rowLen, rowBytes, recordsOf). -/
import Derived.Test.YtdmkkfpbgpijjaaGreatWbo
import Derived.Test.YtdmkkfpbgpijjaaGreatWbg
namespace Go.Proofs.YtdmkkfpbgpijjaaGreat
open Go.RowKit Go.Deep Go.Maps
set_option linter.unusedVariables false

/-- Sectors in memory that are read. -/
def GoodS (b o : Nat) (ss : List Sec) (w : World) : Prop := b < w.heap.size ∧ ∀ j s, ss[j]? = some s → ∃ A c, w.rangeAt b (o + j * 4) (secX s A c) ∧ Good A c s.data w
theorem Built.good {w : World} {b : Nat} {ss : List Sec} (h : Built w b ss) : GoodS b 0 ss w := ⟨h.lt, fun j s hj => by
  obtain ⟨_, A, c, hr, hg, _⟩ := h.at_ j s hj
  exact ⟨A, c, by rw [Nat.zero_add]; exact hr, hg⟩⟩
theorem GoodS.below {w w' : World} {b o : Nat} {ss : List Sec} (h : GoodS b o ss w) (hb : Below w.heap.size w w') : GoodS b o ss w' := ⟨Nat.lt_of_lt_of_le h.1 hb.size, fun j s hj => by
  obtain ⟨A, c, hr, hg⟩ := h.2 j s hj
  exact ⟨A, c, rangeAt_of_block' (hb.block b h.1) hr, hg.below hb⟩⟩
theorem GoodS.drop {w : World} {b o : Nat} {ss : List Sec} (h : GoodS b o ss w) (n : Nat) : GoodS b (o + n * 4) (ss.drop n) w := ⟨h.1, fun j s hj => by
  rw [List.getElem?_drop] at hj
  obtain ⟨A, c, hr, hg⟩ := h.2 (n + j) s hj
  exact ⟨A, c, by rw [show o + n * 4 + j * 4 = o + (n + j) * 4 by omega]; exact hr, hg⟩⟩
theorem GoodS.take {w : World} {b o : Nat} {ss : List Sec} (h : GoodS b o ss w) (n : Nat) : GoodS b o (ss.take n) w := ⟨h.1, fun j s hj => h.2 j s (by
  rw [List.getElem?_take] at hj
  split at hj
  · exact hj
  · cases hj)⟩
theorem range_four {w : World} {b o : Nat} {s : Sec} {A : Option Addr} {c l : Nat} (h : w.rangeAt b o (secX s A c)) (hl : s.data.length = l) : w.cell? ⟨b, o, none⟩ = some (.int .i64 s.n) ∧ w.cell? ⟨b, o + 1, none⟩ = some (.int .i64 s.first) ∧ w.cell? ⟨b, o + 2, none⟩ = some (.bool s.beg) ∧ w.cell? ⟨b, o + 3, none⟩ = some (.slice A l c) := by
  subst hl
  exact ⟨h 0 _ rfl, h 1 _ rfl, h 2 _ rfl, h 3 _ rfl⟩
/-- The box of a sector of the call's own. -/
structure BoxS (B : Nat) (W : World) (s : Sec) (A : Option Addr) (c : Nat) : Prop where
  row : W.rangeAt B 0 (secX s A c)
  thr : W.there B 0 4
  lt : B < W.heap.size
theorem BoxS.below {B : Nat} {W W' : World} {s : Sec} {A : Option Addr} {c : Nat} (h : BoxS B W s A c) (hb : Below W.heap.size W W') : BoxS B W' s A c :=
  ⟨rangeAt_of_block' (hb.block B h.lt) h.row, there_below h.thr hb h.lt, Nat.lt_of_lt_of_le h.lt hb.size⟩
theorem BoxS.alloc {B : Nat} {W : World} {s : Sec} {A : Option Addr} {c : Nat} (h : BoxS B W s A c) (o : Obj) : BoxS B (W.alloc o) s A c := h.below ((Below.refl _ _).alloc (Nat.le_refl _) o)
theorem NewV.box {B : Nat} {W : World} (h : NewV B W) : BoxS B W zS none 0 := by
  refine ⟨fun j v hv => ?_, fun j hj => ?_, h.lt⟩
  · match j, hv with
    | 0, hv => cases hv; exact h.c0
    | 1, hv => cases hv; exact h.c1
    | 2, hv => cases hv; exact h.c2
    | 3, hv => cases hv; exact h.c3
    | j + 4, hv => simp [secX, secV] at hv
  · match j, hj with
    | 0, _ => exact ⟨by rw [h.c0]; rfl, h.f0⟩
    | 1, _ => exact ⟨by rw [h.c1]; rfl, h.f1⟩
    | 2, _ => exact ⟨by rw [h.c2]; rfl, h.f2⟩
    | 3, _ => exact ⟨by rw [h.c3]; rfl, h.f3⟩
theorem BoxS.put {B : Nat} {W W2 : World} {s s' : Sec} {A A' : Option Addr} {c c' : Nat} (h : BoxS B W s A c) (e : Hid (W2 = W.setCells B 0 (secX s' A' c'))) : BoxS B W2 s' A' c' :=
  ⟨range_store e h.thr, there_store e h.thr, by rw [size_store e]; exact h.lt⟩

def LastSays (ss : List Sec) (w : World) (e : Ending) (w' : World) : Prop := ∃ A c, e = .returned (.agg #[.int .i64 (lastL ss).n, .int .i64 (lastL ss).first, .bool (lastL ss).beg, .slice A (lastL ss).data.length c]) ∧ Below w.heap.size w w'
set_option maxRecDepth 100000 in
set_option maxHeartbeats 2000000 in
theorem lastOf_any (b N : Nat) (ss : List Sec) (w : World) (g : GoodS b 0 ss w) (hl : ss.length = N) (hN : N ≤ 512) : Calls Tryz.prog 32 #[.slice (some ⟨b, 0, none⟩) N N] w (LastSays ss w) := by
  have HL := Lib.hid hl
  have hbl := g.1
  have G := Lib.hid g
  clear hl g
  have n0 := newV_new w
  have n1 := newV_new (w.alloc (.cells #[.int .i64 0, .int .i64 0, .bool false, .slice none 0 0] 72))
  have n0' := n0.alloc (.cells #[.int .i64 0, .int .i64 0, .bool false, .slice none 0 0] 72)
  have hB0 : Below w.heap.size w ((w.alloc (.cells #[.int .i64 0, .int .i64 0, .bool false, .slice none 0 0] 72)).alloc (.cells #[.int .i64 0, .int .i64 0, .bool false, .slice none 0 0] 72)) := ((Below.refl _ w).alloc (Nat.le_refl _) _).alloc (by simp) _
  rw [World.size_alloc] at n1
  have HN0 := Lib.hid n0'.box
  have HN1 := Lib.hid n1.box
  clear n0 n1 n0'
  go_enter Tryz.func32, Tryz.ntmps32
  go_wp2
  generalize (w.alloc (.cells #[.int .i64 0, .int .i64 0, .bool false, .slice none 0 0] 72)).alloc (.cells #[.int .i64 0, .int .i64 0, .bool false, .slice none 0 0] 72) = W0 at *
  go_loopw [8] (fun i wr => ∃ k : Nat, k ≤ N ∧ i = .int .i64 k ∧ BoxS w.heap.size wr zS none 0 ∧ (∃ A c, BoxS (w.heap.size + 1) wr (lastL (ss.take k)) A c) ∧ Below w.heap.size w wr) (fun i _ => N - (intOf i).toNat)
  case atStart => exact ⟨0, Nat.zero_le _, rfl, HN0.out, ⟨none, 0, HN1.out⟩, hB0⟩
  case round =>
    obtain ⟨k, hk, rfl, hr, ⟨Al, cl, hla⟩, hbe⟩ := hrel
    by_cases hlt : k < N
    · have hlti : (k : Int) < (N : Int) := by omega
      have hkl : k < ss.length := by rw [HL.out]; exact hlt
      obtain ⟨A, c, hrow, hg⟩ := G.out.2 k ss[k] (List.getElem?_eq_getElem hkl)
      have HSN := Lib.hid (lastL_snoc (ss.take k) ss[k])
      have HTK := Lib.hid (List.take_succ_eq_append_getElem hkl)
      generalize ss[k] = s at *
      generalize lastL (ss.take k) = t at *
      obtain ⟨l, hl⟩ : ∃ l, s.data.length = l := ⟨_, rfl⟩
      obtain ⟨lt, hlt2⟩ : ∃ lt, t.data.length = lt := ⟨_, rfl⟩
      obtain ⟨x0, x1, x2, x3⟩ := range_four (rangeAt_of_block' (hbe.block b hbl) hrow) hl
      obtain ⟨y0, y1, y2, y3⟩ := range_four hla.row hlt2
      have hsz := hla.lt
      have HX := Lib.hid hl
      clear hl hlt2 hrow hg
      rw [Nat.zero_add] at x0 x1 x2 x3
      have hR := Lib.hid hr
      have hLa := Lib.hid (fun o => hla.alloc o)
      clear hr hla
      by_cases hgt : t.n < s.n
      · have hgi : (t.n : Int) < (s.n : Int) := by omega
        have hgd : decide (t.n < s.n) = true := by simpa using hgt
        go_wp2_with (refine wpList_storeT rfl 72 _ _ rfl (w.heap.size + 1) 0 (secV s.n s.first s.beg A l c) rfl rfl (hLa.out _).thr size_secV (secV_one _ _ _ _ _ _) ?_; intro W5 e5)
        go_roundw
        case rel =>
          refine ⟨k + 1, by omega, by go_num, ?_, ⟨A, c, ?_⟩, ?_⟩
          · have hm := moves_store e5
            have hx := hR.out.alloc (.cells #[.int .i64 s.n, .int .i64 s.first, .bool s.beg, .slice A l c] 72)
            have hbk := hm.block w.heap.size hx.lt (by show ¬ w.heap.size = w.heap.size + 1; omega)
            exact ⟨rangeAt_of_block' hbk hx.row, there_of_block' hbk hx.thr, Nat.lt_of_lt_of_le hx.lt hm.size⟩
          · rw [HTK.out, HSN.out, if_pos hgt]
            exact (hLa.out _).put (by unfold secX; rw [HX.out]; exact e5)
          · exact (below_more hbe ((Below.refl _ _).alloc (Nat.le_refl _) _) (Nat.le_refl _)).trans (below_store e5 (by have := hbe.size; simp; omega) (by omega))
        case measure => simp [intOf]; omega
      · have hgi : ¬ ((t.n : Int) < (s.n : Int)) := by omega
        have hgd : decide (t.n < s.n) = false := by simpa using hgt
        go_wp2
        go_roundw
        case rel =>
          refine ⟨k + 1, by omega, by go_num, hR.out.alloc _, ⟨Al, cl, ?_⟩, below_more hbe ((Below.refl _ _).alloc (Nat.le_refl _) _) (Nat.le_refl _)⟩
          rw [HTK.out, HSN.out, if_neg hgt]
          exact hLa.out _
        case measure => simp [intOf]; omega
    · have hge : ¬ ((k : Int) < (N : Int)) := by omega
      obtain rfl : k = N := by omega
      rw [List.take_of_length_le (by rw [HL.out]; exact Nat.le_refl _)] at hla
      obtain ⟨t, ht⟩ : ∃ t, lastL ss = t := ⟨_, rfl⟩
      rw [ht] at hla
      have HT := Lib.hid ht
      obtain ⟨lt, hlt2⟩ : ∃ lt, t.data.length = lt := ⟨_, rfl⟩
      obtain ⟨y0, y1, y2, y3⟩ := range_four hla.row hlt2
      have HLT := Lib.hid hlt2
      clear hlt2 ht
      have ht0 := hr.thr
      have hlt0 := hr.lt
      clear hr hla
      go_wp2_with (refine wpList_storeT rfl 72 _ _ rfl w.heap.size 0 (secV t.n t.first t.beg Al lt cl) rfl rfl ht0 size_secV (secV_one _ _ _ _ _ _) ?_; intro W5 e5)
      have hrw := range_store e5 ht0
      have z0 := hrw 0 _ rfl
      have z1 := hrw 1 _ rfl
      have z2 := hrw 2 _ rfl
      have z3 := hrw 3 _ rfl
      refine bodyPost_ret (v := .agg #[.int .i64 t.n, .int .i64 t.first, .bool t.beg, .slice Al lt cl]) ?_ rfl ⟨Al, cl, by rw [HT.out, HLT.out], hbe.trans (below_store e5 hbe.size (Nat.le_refl _))⟩
      simp at z0 z1 z2 z3
      simp [results, Tryz.results32, go_sem, z0, z1, z2, z3]

/-! ### a row of sectors of the call's own -/
structure SecE where
  s : Sec
  A : Option Addr
  c : Nat
def secE (x : SecE) : List Value := secX x.s x.A x.c
def OwnsS (B : Nat) (w : World) (v : Value) (xs : List SecE) : Prop := w.ownsRow B 72 4 v xs.length (xs.flatMap secE)
theorem ownsS_nil (B : Nat) (w : World) : OwnsS B w (.slice none 0 0) [] := ⟨rfl, .inl ⟨rfl, rfl⟩⟩
theorem OwnsS.below {B : Nat} {w w' : World} {v : Value} {xs : List SecE} (h : OwnsS B w v xs) (hb : Below w.heap.size w w') : OwnsS B w' v xs :=
  World.ownsRow.kept h (row := none) ⟨hb.os, hb.tape, hb.output, hb.size, fun j hj _ => hb.block j hj⟩ (by cases hv : v.ownBlock <;> simp)
theorem OwnsS.alloc {B : Nat} {w : World} {v : Value} {xs : List SecE} (h : OwnsS B w v xs) (o : Obj) : OwnsS B (w.alloc o) v xs := h.below ((Below.refl _ _).alloc (Nat.le_refl _) o)
theorem OwnsS.base {B B' : Nat} {w : World} {v : Value} {xs : List SecE} (h : OwnsS B w v xs) (hB : B' ≤ B) : OwnsS B' w v xs := by
  refine ⟨h.1, ?_⟩
  rcases h.2 with h | ⟨g, cap, cur, h1, h2, h3⟩
  · exact .inl h
  · exact .inr ⟨g, cap, cur, h1, Nat.le_trans hB h2, h3⟩
theorem secE_one (x : SecE) : ∀ u ∈ secE x, u.oneCell' = true := secV_one _ _ _ _ _ _
theorem OwnsS.good {B : Nat} {w : World} {v : Value} {xs : List SecE} (h : OwnsS B w v xs) (hd : ∀ x ∈ xs, Good x.A x.c x.s.data w) (h0 : 0 < xs.length) : ∃ g c, v = .slice (some ⟨g, 0, none⟩) xs.length c ∧ xs.length ≤ c ∧ GoodS g 0 (xs.map (·.s)) w := by
  rcases h.2 with ⟨rfl, hn⟩ | ⟨g, cap, cur, rfl, _, hh, hnc, _, hsz, htk⟩
  · omega
  · refine ⟨g, cap, rfl, hnc, (Array.getElem?_eq_some_iff.1 hh).1, fun j s hj => ?_⟩
    rw [List.getElem?_map] at hj
    cases hx : xs[j]? with
    | none => rw [hx] at hj; cases hj
    | some x =>
      rw [hx] at hj
      cases hj
      refine ⟨x.A, x.c, fun i u hu => ?_, hd x (List.mem_of_getElem? hx)⟩
      have hi : i < 4 := by
        rcases Nat.lt_or_ge i 4 with y | y
        · exact y
        · rw [List.getElem?_eq_none (by rw [secX_len]; exact y)] at hu; cases hu
      have hf := flat_at secE 4 xs (fun _ _ => rfl) j x hx i hi
      have hc := World.ownsRow.cells h (g := g) rfl (j * 4 + i) u (by rw [hf]; exact hu)
      rw [Go.WideShapes.add_plain] at hc
      rw [show 0 + j * 4 + i = 0 + (j * 4 + i) by omega]
      exact hc
/-- A sector appended to sectors of one's own. -/
theorem wpList_appendS {ops : Array Oper} {rest : List Oper} {o : Oper} {a : Act} {Q : Exit → Act → World → Prop} {W : World} (hgd : o.guard = none) (s x : Operand) (ho : o.op = .call { callee := .builtin .append, args := #[s, x], argTypes := #[69, 69] })
    (base : Nat) (v : Value) (xs : List SecE) (hs : a.eval s = v) (hown : OwnsS base W v xs) (r : SecE) (b c : Nat) (hx : a.eval x = .slice (some ⟨b, 0, none⟩) 1 c) (hb : W.rangeAt b 0 (secE r)) (hl : xs.length ≤ 4000) (hbase : base ≤ W.heap.size) (w0 : World) (hbel : Below base w0 W)
    (h : ∀ v' w', OwnsS base w' v' (xs ++ [r]) → Below base w0 w' → wpList Tryz.prog ops Q rest (a.put o.dst v') w') : wpList Tryz.prog ops Q (o :: rest) a W := by
  obtain ⟨i0, hi, hz0, hz1, hz2⟩ := info_parts info_secV
  refine wpList_append_own W hgd s x 69 ho base 72 i0 _ 4 48 Tryz.underlying69 hi hz0 hz1 hz2 rfl (by decide) v xs.length _ hs hown ⟨b, 0, none⟩ 1 c (secE r) hx rfl (fun j u hu => ?_) (secE_one r) (by simp only [maxLen]; omega) (by omega) hbase (fun v' w' hown' hgrow _ => h v' w' ?_ (hbel.grown hgrow hbase (fun k e => (World.ownsRow.lt hown k e).1)))
  · rw [Go.WideShapes.add_plain]
    exact hb j u hu
  · unfold OwnsS
    rw [List.length_append, List.flatMap_append]
    simpa using hown'
theorem range_newS (w : World) (r : SecE) : (w.alloc (.cells (secE r).toArray 72)).rangeAt w.heap.size 0 (secE r) := by
  intro i v hv
  rw [Nat.zero_add, cell_of_row _ w.heap.size i _ 72 (0, 0) (heap_alloc_new w _)]
  simpa using hv

theorem range_newS2 (w : World) (o : Obj) (r : SecE) : ((w.alloc o).alloc (.cells #[.int .i64 r.s.n, .int .i64 r.s.first, .bool r.s.beg, .slice r.A r.s.data.length r.c] 72)).rangeAt (w.heap.size + 1) 0 (secE r) := by
  have := range_newS (w.alloc o) r
  rw [World.size_alloc] at this
  exact this

/-! ### countingOf -/
def CountSays (ss : List Sec) (f k : Nat) (w : World) (e : Ending) (w' : World) : Prop :=
  Below w.heap.size w w' ∧ ((∃ v xs, cntF ss f k = some (xs.map (·.s)) ∧ e = .returned (.tuple #[v, .bool true]) ∧ OwnsS w.heap.size w' v xs ∧ (∀ x ∈ xs, Good x.A x.c x.s.data w')) ∨
    (cntF ss f k = none ∧ e = .returned (.tuple #[.slice none 0 0, .bool false])))
set_option maxRecDepth 100000 in
set_option maxHeartbeats 2000000 in
theorem count_out (b N : Nat) (m f l c : Nat) (g : Bool) (A : Option Addr) (w : World) (hm : m ≤ 4294967296) (hf : f ≤ 4294967296) (h : f < 1 ∨ m < f) :
    Calls Tryz.prog 33 #[.slice (some ⟨b, 0, none⟩) N N, .agg #[.int .i64 m, .int .i64 f, .bool g, .slice A l c]] w fun e w' => e = .returned (.tuple #[.slice none 0 0, .bool false]) ∧ Below w.heap.size w w' := by
  by_cases h1 : f < 1
  · have h1i : decide ((f : Int) < 1) = true := by simp; omega
    have h1j : (f : Int) < 1 := by omega
    clear h
    go_enter Tryz.func33, Tryz.ntmps33
    go_wp2
    go_ret2
    exact ⟨rfl, (Below.refl _ _).alloc (Nat.le_refl _) _⟩
  · have h1i : decide ((f : Int) < 1) = false := by simp; omega
    have h1j : ¬ ((f : Int) < 1) := by omega
    have h2 : m < f := by omega
    have h2i : (m : Int) < (f : Int) := by omega
    have h2d : decide (m < f) = true := by simpa using h2
    clear h
    go_enter Tryz.func33, Tryz.ntmps33
    go_wp2
    go_ret2
    exact ⟨rfl, (Below.refl _ _).alloc (Nat.le_refl _) _⟩
set_option maxRecDepth 100000 in
set_option maxHeartbeats 2000000 in
theorem count_any (b N : Nat) (ss : List Sec) (m f l c k : Nat) (gb : Bool) (A : Option Addr) (w : World) (g : GoodS b 0 ss w) (hl : ss.length = N) (hN1 : 1 ≤ N) (hN : N ≤ 512) (hf : 1 ≤ f) (hfm : f ≤ m) (hm : m < 4294967296) (hk : m - f + 1 = k) :
    Calls Tryz.prog 33 #[.slice (some ⟨b, 0, none⟩) N N, .agg #[.int .i64 m, .int .i64 f, .bool gb, .slice A l c]] w (CountSays ss f k w) := by
  have HL := Lib.hid hl
  have HK := Lib.hid hk
  have hbl := g.1
  have G := Lib.hid g
  have h1i : decide ((f : Int) < 1) = false := by simp; omega
  have h1j : ¬ ((f : Int) < 1) := by omega
  have h2 : ¬ m < f := by omega
  have h2i : ¬ ((m : Int) < (f : Int)) := by omega
  have h2d : decide (m < f) = false := by simpa using h2
  clear hl hk g
  have hcell : ∀ j v, (#[Value.int .i64 (m : Int), Value.int .i64 (f : Int), Value.bool gb, Value.slice A l c])[j]? = some v → (w.alloc (.cells #[.int .i64 m, .int .i64 f, .bool gb, .slice A l c] 72)).cell? ⟨w.heap.size, j, none⟩ = some v := fun j v hv => by
    rw [cell_of_row _ _ j _ 72 (0, 0) (heap_alloc_new w _)]; exact hv
  have HC := Lib.hid hcell
  clear hcell
  go_enter Tryz.func33, Tryz.ntmps33
  go_wp2
  have d0 := HC.out 0 _ rfl
  have d1 := HC.out 1 _ rfl
  have hsz : (w.alloc (.cells #[.int .i64 m, .int .i64 f, .bool gb, .slice A l c] 72)).heap.size = w.heap.size + 1 := World.size_alloc _ _
  have hB0 : Below w.heap.size w (w.alloc (.cells #[.int .i64 m, .int .i64 f, .bool gb, .slice A l c] 72)) := (Below.refl _ _).alloc (Nat.le_refl _) _
  have HSZ := Lib.hid hsz
  clear hsz HC
  generalize w.alloc (.cells #[.int .i64 m, .int .i64 f, .bool gb, .slice A l c] 72) = W0 at *
  go_loopw [6, 7] (fun v n wr => ∃ (j : Nat) (xs : List SecE), f + j ≤ m + 1 ∧ n = .int .i64 ((f + j : Nat) : Int) ∧ cntF ss f j = some (xs.map (·.s)) ∧ OwnsS (w.heap.size + 1) wr v xs ∧ (∀ x ∈ xs, Good x.A x.c x.s.data w) ∧ Below (w.heap.size + 1) W0 wr) (fun _ n _ => m + 1 - (intOf n).toNat)
  case atStart => exact ⟨0, [], by omega, rfl, rfl, ownsS_nil _ _, (fun x hx => by cases hx), Below.refl _ _⟩
  case round =>
    obtain ⟨j, xs, hj, rfl, hc, hown, hgd, hbe⟩ := hrel
    obtain ⟨nn, hnn⟩ : ∃ nn, f + j = nn := ⟨_, rfl⟩
    rw [hnn]
    have z0 : wr.cell? ⟨w.heap.size, 0, none⟩ = some (.int .i64 m) := (hbe.cell (p := ⟨w.heap.size, 0, none⟩) (by show w.heap.size < w.heap.size + 1; omega)).trans d0
    have hwr : Below w.heap.size w wr := hB0.trans (hbe.mono (by omega))
    have hs1 : w.heap.size + 1 ≤ wr.heap.size := by have := hbe.size; rw [HSZ.out] at this; exact this
    have HNN := Lib.hid hnn
    have HCC := Lib.hid hc
    by_cases hle : nn ≤ m
    · have hlei : (nn : Int) ≤ (m : Int) := by omega
      have hled : decide (nn ≤ m) = true := by simpa using hle
      obtain ⟨q, hq⟩ : ∃ q, placeOf N nn = q := ⟨_, rfl⟩
      have hqN : q < N := by rw [← hq]; exact placeOf_lt _ _ hN1
      have hqi : (q : Int) < (N : Int) := by omega
      have c1 := fun W => place_any nn N q (by omega) (by omega) hN1 hN hq W
      have hql : q < ss.length := by rw [HL.out]; exact hqN
      obtain ⟨As, cs, hrow, hg⟩ := G.out.2 q ss[q] (List.getElem?_eq_getElem hql)
      have HST := Lib.hid (show cntF ss f (j + 1) = if ss[q].n = nn then some (xs.map (·.s) ++ [ss[q]]) else none by
        rw [cntF, hc]
        simp only
        rw [HL.out, hnn, hq, List.getElem?_eq_getElem hql, Option.getD_some])
      have hxl : xs.length ≤ 512 := by
        have e1 := cntF_len ss f j _ hc
        have e2 := cntF_le ss f j _ (by rw [HL.out]; omega) hf hc
        rw [HL.out] at e2
        rw [List.length_map] at e1
        omega
      generalize ss[q] = s at *
      obtain ⟨x0, x1, x2, x3⟩ := range_four (rangeAt_of_block' (hwr.block b hbl) hrow) rfl
      rw [Nat.zero_add] at x0 x1 x2 x3
      clear hnn hc hq hrow hql
      by_cases hne : s.n = nn
      · have hnd : ((s.n : Int) != (nn : Int)) = false := by simp [hne]
        have hnd2 : (s.n != nn) = false := by simp [hne]
        have HE := Lib.hid hne
        clear hne
        go_wp2_with (first | (go_at_call 58; refine (c1 _).mono ?_; rintro e w' ⟨rfl, rfl⟩) | (at_builtin; refine wpList_appendS rfl _ _ rfl (w.heap.size + 1) _ xs rfl ((hown.alloc _).alloc _) ⟨s, As, cs⟩ _ _ rfl (range_newS2 _ _ ⟨s, As, cs⟩) (by omega) (by simp; omega) W0 ((hbe.alloc hs1 _).alloc (by simp; omega) _) ?_; intro v2 w2 own2 be2))
        go_roundw
        case rel =>
          refine ⟨j + 1, xs ++ [⟨s, As, cs⟩], by have := HNN.out; omega, by have := HNN.out; rw [show f + (j + 1) = nn + 1 by omega]; go_num, ?_, own2, ?_, be2⟩
          · rw [HST.out, if_pos HE.out, List.map_append]; rfl
          · intro x hx
            rcases List.mem_append.1 hx with h | h
            · exact hgd x h
            · rw [List.mem_singleton.1 h]; exact hg
        case measure => simp [intOf]; omega
      · have hnd : ((s.n : Int) != (nn : Int)) = true := by simp; omega
        have hnd2 : (s.n != nn) = true := by simp; omega
        have HE := Lib.hid hne
        clear hne
        go_wp2_with (go_at_call 58; refine (c1 _).mono ?_; rintro e w' ⟨rfl, rfl⟩)
        go_ret2
        refine ⟨below_more hwr ((Below.refl _ _).alloc (Nat.le_refl _) _) (Nat.le_refl _), .inr ⟨?_, rfl⟩⟩
        have h1 : cntF ss f (j + 1) = none := by rw [HST.out, if_neg HE.out]
        have h2 := cntF_more ss f (j + 1) h1 (k - (j + 1))
        rw [show j + 1 + (k - (j + 1)) = k by have := HNN.out; have := HK.out; omega] at h2
        exact h2
    · have hlei : ¬ ((nn : Int) ≤ (m : Int)) := by omega
      have hled : decide (nn ≤ m) = false := by simpa using hle
      clear hnn hc
      go_wp2
      go_ret2
      refine ⟨hwr, .inl ⟨_, xs, ?_, rfl, hown.base (by omega), fun x hx => (hgd x hx).below hwr⟩⟩
      rw [show k = j by have := HNN.out; have := HK.out; omega]
      exact HCC.out
end Go.Proofs.YtdmkkfpbgpijjaaGreat
namespace Go.Proofs.YtdmkkfpbgpijjaaGreat
open Go.RowKit Go.Deep Go.Maps
set_option linter.unusedVariables false

def RowLenSays (cs : List Sec) (w : World) (e : Ending) (w' : World) : Prop := ∃ n, RowN cs n ∧ e = .returned (.int .i64 (n : Nat)) ∧ w = w'
set_option maxRecDepth 100000 in
set_option maxHeartbeats 2000000 in
theorem rowLen_any (g o l c : Nat) (cs : List Sec) (w : World) (G : GoodS g o cs w) (hl : cs.length = l) (h1 : 1 ≤ l) (h2 : l ≤ 512) : Calls Tryz.prog 59 #[.slice (some ⟨g, o, none⟩) l c] w (RowLenSays cs w) := by
  have HL := Lib.hid hl
  have HG := Lib.hid G
  clear hl G
  go_enter Tryz.func59, Tryz.ntmps59
  go_wp2
  go_loop [3] (fun i => ∃ n : Nat, 1 ≤ n ∧ n ≤ l ∧ i = .int .i64 n ∧ (∀ i c, 1 ≤ i → i < n → cs[i]? = some c → c.beg = false)) (fun i => l - (intOf i).toNat)
  case atStart => exact ⟨1, Nat.le_refl _, h1, rfl, fun i c a b => absurd b (by omega)⟩
  case round =>
    obtain ⟨n, hn1, hn2, rfl, hp⟩ := hrel
    have HP := Lib.hid hp
    clear hp
    by_cases hlt : n < l
    · have hlti : (n : Int) < (l : Int) := by omega
      have hltd : decide (n < l) = true := by simpa using hlt
      have hnl : n < cs.length := by rw [HL.out]; exact hlt
      obtain ⟨A, c', hr, _⟩ := HG.out.2 n cs[n] (List.getElem?_eq_getElem hnl)
      have HE := Lib.hid (List.getElem?_eq_getElem hnl)
      generalize cs[n] = s at *
      obtain ⟨_, _, x2, _⟩ := range_four hr rfl
      clear hr hnl
      cases hb : s.beg
      · rw [hb] at x2
        have HB := Lib.hid hb
        clear hb
        go_wp2
        go_round
        case rel =>
          refine ⟨n + 1, by omega, by omega, by go_num, fun i d a b e => ?_⟩
          rcases Nat.lt_or_ge i n with y | y
          · exact HP.out i d a y e
          · obtain rfl : i = n := by omega
            rw [HE.out] at e
            injection e with e
            rw [← e]; exact HB.out
        case measure => simp [intOf]; omega
      · rw [hb] at x2
        have HB := Lib.hid hb
        clear hb
        go_wp2
        go_ret
        exact ⟨n, ⟨hn1, by rw [HL.out]; exact hn2, HP.out, fun d e => by rw [HE.out] at e; injection e with e; rw [← e]; exact HB.out⟩, rfl, rfl⟩
    · obtain rfl : n = l := by omega
      have hltd : decide (n < n) = false := by simp
      go_wp2
      go_ret
      exact ⟨n, ⟨hn1, by rw [HL.out]; exact hn2, HP.out, fun d e => by rw [List.getElem?_eq_none (by rw [HL.out]; exact Nat.le_refl _)] at e; cases e⟩, rfl, rfl⟩
def dataL (cs : List Sec) : List Int := cs.flatMap (·.data)
theorem dataL_snoc (cs : List Sec) (k : Nat) (h : k < cs.length) : dataL (cs.take (k + 1)) = dataL (cs.take k) ++ cs[k].data := by
  unfold dataL
  rw [List.take_succ_eq_append_getElem h, List.flatMap_append]
  simp
theorem dataL_len (cs : List Sec) (hd : ∀ s ∈ cs, s.data.length ≤ 16) : (dataL cs).length ≤ 16 * cs.length := by
  have := rowsP_len cs hd cs.length
  rwa [List.take_length] at this
set_option maxRecDepth 100000 in
set_option maxHeartbeats 2000000 in
theorem rowBytes_any (g o l c : Nat) (cs : List Sec) (w : World) (G : GoodS g o cs w) (hl : cs.length = l) (h2 : l ≤ 512) (hd : ∀ s ∈ cs, s.data.length ≤ 16) : Calls Tryz.prog 60 #[.slice (some ⟨g, o, none⟩) l c] w (GivesB (dataL cs) w) := by
  have HL := Lib.hid hl
  have HG := Lib.hid G
  have hgl := G.1
  have HD := Lib.hid hd
  clear hl G hd
  go_enter Tryz.func60, Tryz.ntmps60
  go_wp2
  go_loopw [3, 8] (fun v i wr => ∃ k : Nat, k ≤ l ∧ i = .int .i64 k ∧ Owns w.heap.size wr v (dataL (cs.take k)) ∧ Below w.heap.size w wr) (fun _ i _ => l - (intOf i).toNat)
  case atStart => exact ⟨0, Nat.zero_le _, rfl, ⟨rfl, .inl ⟨rfl, rfl⟩⟩, Below.refl _ _⟩
  case round =>
    obtain ⟨k, hk, rfl, hown, hbe⟩ := hrel
    by_cases hlt : k < l
    · have hlti : (k : Int) < (l : Int) := by omega
      have hltd : decide (k < l) = true := by simpa using hlt
      have hkl : k < cs.length := by rw [HL.out]; exact hlt
      obtain ⟨A, c', hr, hgd⟩ := HG.out.2 k cs[k] (List.getElem?_eq_getElem hkl)
      have HSN := Lib.hid (dataL_snoc cs k hkl)
      have hlen : (dataL (cs.take k)).length + cs[k].data.length ≤ 10000 := by
        have h1 := dataL_len (cs.take k) (fun s hs => HD.out s (List.mem_of_mem_take hs))
        have h3 := HD.out cs[k] (List.getElem_mem _)
        rw [List.length_take, HL.out] at h1
        omega
      have HLEN := Lib.hid hlen
      generalize cs[k] = s at *
      obtain ⟨x0, x1, x2, x3⟩ := range_four (rangeAt_of_block' (hbe.block g hgl) hr) rfl
      clear hr hkl hlen
      go_wp2_with (at_builtin; refine wpList_appendB rfl _ _ rfl w.heap.size _ (dataL (cs.take k)) rfl (hown.below ((Below.refl _ _).alloc (Nat.le_refl _) _)) _ s.data _ _ rfl rfl ((hgd.below hbe).alloc _) HLEN.out (by have := hbe.size; simp; omega) w (below_more hbe ((Below.refl _ _).alloc (Nat.le_refl _) _) (Nat.le_refl _)) ?_; intro v2 w2 own2 be2)
      go_roundw
      case rel => exact ⟨k + 1, by omega, by go_num, by rw [HSN.out]; exact own2, be2⟩
      case measure => simp [intOf]; omega
    · obtain rfl : k = l := by omega
      have hltd : decide (k < k) = false := by simp
      rw [List.take_of_length_le (by rw [HL.out]; exact Nat.le_refl _)] at hown
      go_wp2
      go_ret
      exact ⟨_, rfl, hown, hbe⟩

def RecordsSays (cs : List Sec) (w : World) (e : Ending) (w' : World) : Prop :=
  Below w.heap.size w w' ∧ ((∃ v rs, tellP cs = some rs ∧ e = .returned (.tuple #[v, .bool true]) ∧ OwnsR w.heap.size w' v rs) ∨ (tellP cs = none ∧ e = .returned (.tuple #[.slice none 0 0, .bool false])))
def lenS : Value → Nat
  | .slice _ r _ => r
  | _ => 0
/-- Rows that are done, so far. -/
structure DoneR (cs : List Sec) (k : Nat) (acc : List RecD) : Prop where
  ex : ∃ done, rowsP cs = done ++ rowsP (cs.drop k) ∧ done.all rowOK = true ∧ acc = done.flatMap recsL
  len : 3 * acc.length ≤ 16 * k
theorem DoneR.start (cs : List Sec) : DoneR cs 0 [] := ⟨⟨[], rfl, rfl, rfl⟩, by simp⟩
theorem recs_len (b : List Int) : 3 * (recsL b).length ≤ b.length := by
  unfold recsL
  rw [recsN_length]
  have h1 := posN_ge (stops_stopK b).1
  have h2 := posN_le b (stopK b)
  omega
theorem DoneR.step {cs : List Sec} {k n : Nat} {acc : List RecD} (h : DoneR cs k acc) (hr : RowN (cs.drop k) n) (hd : ∀ s ∈ cs, s.data.length ≤ 16) (hok : rowOK (dataL ((cs.drop k).take n)) = true) : DoneR cs (k + n) (acc ++ recsL (dataL ((cs.drop k).take n))) := by
  obtain ⟨done, h1, h2, h3⟩ := h.ex
  refine ⟨⟨done ++ [dataL ((cs.drop k).take n)], ?_, ?_, ?_⟩, ?_⟩
  · rw [h1, rowsP_row _ n hr, List.drop_drop, List.append_assoc]; rfl
  · rw [List.all_append, h2, Bool.true_and, List.all_cons, hok]; rfl
  · rw [List.flatMap_append, h3]; simp
  · have e1 := recs_len (dataL ((cs.drop k).take n))
    have e2 := dataL_len ((cs.drop k).take n) (fun s hs => hd s (List.mem_of_mem_drop (List.mem_of_mem_take hs)))
    rw [List.length_take] at e2
    have e3 := h.len
    rw [List.length_append]
    omega
theorem DoneR.fail {cs : List Sec} {k n : Nat} {acc : List RecD} (h : DoneR cs k acc) (hr : RowN (cs.drop k) n) (hok : rowOK (dataL ((cs.drop k).take n)) = false) : tellP cs = none := by
  obtain ⟨done, h1, h2, h3⟩ := h.ex
  unfold tellP
  rw [h1, rowsP_row _ n hr]
  have : (done ++ (List.flatMap (fun x => x.data) (List.take n (List.drop k cs)) :: rowsP (List.drop n (List.drop k cs)))).all rowOK = false := by
    rw [List.all_append, h2, Bool.true_and, List.all_cons]
    show (rowOK (dataL ((cs.drop k).take n)) && _) = false
    rw [hok]; rfl
  rw [this]; rfl
theorem DoneR.end_ {cs : List Sec} {k : Nat} {acc : List RecD} (h : DoneR cs k acc) (hk : cs.length ≤ k) : tellP cs = some acc := by
  obtain ⟨done, h1, h2, h3⟩ := h.ex
  rw [List.drop_eq_nil_of_le hk] at h1
  have e : rowsP cs = done := by rw [h1]; simp [rowsP]
  unfold tellP
  rw [e, h2, h3]; rfl
theorem bytes_data (cs : List Sec) (h : ∀ s ∈ cs, isBytes s.data) : isBytes (dataL cs) := by
  intro z hz
  unfold dataL at hz
  obtain ⟨s, hs, hz⟩ := List.mem_flatMap.1 hz
  exact h s hs z hz
set_option maxRecDepth 100000 in
set_option maxHeartbeats 2000000 in
theorem recordsOf_any (g l c : Nat) (cs : List Sec) (w : World) (G : GoodS g 0 cs w) (hl : cs.length = l) (h2 : l ≤ 512) (hlc : l ≤ c) (hd : ∀ s ∈ cs, s.data.length ≤ 16) (hby : ∀ s ∈ cs, isBytes s.data) : Calls Tryz.prog 34 #[.slice (some ⟨g, 0, none⟩) l c] w (RecordsSays cs w) := by
  have HL := Lib.hid hl
  have HG := Lib.hid G
  have HD := Lib.hid hd
  have HY := Lib.hid hby
  clear hl G hd hby
  go_enter Tryz.func34, Tryz.ntmps34
  go_wp2
  go_loopw [0, 4] (fun x v wr => ∃ (k r cc : Nat) (A : Option Addr) (acc : List RecD), k + r = l ∧ r ≤ cc ∧ x = .slice A r cc ∧ (0 < r → A = some ⟨g, k * 4, none⟩) ∧ DoneR cs k acc ∧ OwnsR w.heap.size wr v acc ∧ Below w.heap.size w wr) (fun x _ _ => lenS x)
  case atStart => exact ⟨0, l, c, some ⟨g, 0, none⟩, [], by omega, hlc, rfl, fun _ => rfl, DoneR.start cs, ownsR_nil _ _, Below.refl _ _⟩
  case round =>
    obtain ⟨k, r, cc, A, acc, hkr, hrc, rfl, hA, hdone, hown, hbe⟩ := hrel
    by_cases h0 : 0 < r
    · obtain rfl := hA h0
      have h0i : (0 : Int) < (r : Int) := by omega
      have h0d : decide (0 < r) = true := by simpa using h0
      have Gk := HG.out.drop k
      rw [Nat.zero_add] at Gk
      have hlen : (cs.drop k).length = r := by rw [List.length_drop, HL.out]; omega
      have c1 := fun W (hW : Below w.heap.size w W) => rowLen_any g (k * 4) r cc (cs.drop k) W (Gk.below hW) hlen (by omega) (by omega)
      clear hA
      go_wp2_with fail
      refine (c1 _ hbe).mono ?_
      rintro e w1 ⟨n, hrow, rfl, rfl⟩
      have hn1 := hrow.one
      have hn2 : n ≤ r := by have := hrow.le; rw [hlen] at this; exact this
      have hnc : (n : Int) ≤ (cc : Int) := by omega
      have c2 := rowBytes_any g (k * 4) n cc ((cs.drop k).take n) wr ((Gk.below hbe).take n) (by rw [List.length_take, hlen]; omega) (by omega) (fun s hs => HD.out s (List.mem_of_mem_drop (List.mem_of_mem_take hs)))
      have HB := Lib.hid (bytes_data ((cs.drop k).take n) (fun s hs => HY.out s (List.mem_of_mem_drop (List.mem_of_mem_take hs))))
      have hzl : (dataL ((cs.drop k).take n)).length ≤ 16 * n := by
        have := dataL_len ((cs.drop k).take n) (fun s hs => HD.out s (List.mem_of_mem_drop (List.mem_of_mem_take hs)))
        rw [List.length_take] at this
        omega
      have HST := Lib.hid (fun h => hdone.step hrow HD.out h)
      have HFA := Lib.hid (fun h => hdone.fail hrow h)
      have hal := hdone.len
      have HRL := Lib.hid (recs_len (dataL ((cs.drop k).take n)))
      generalize dataL ((cs.drop k).take n) = zs at *
      clear c1 Gk hlen hrow hdone
      go_wp2_with fail
      refine c2.mono ?_
      clear c2
      rintro e w1 ⟨v1, rfl, o1, b1⟩
      obtain ⟨A1, ca, rfl, g1⟩ := o1.good
      obtain ⟨m, hm⟩ : ∃ m, zs.length = m := ⟨_, rfl⟩
      rw [hm]
      have c3 := all_any A1 m ca zs hm (by omega) HB.out w1 g1
      go_wp2_with fail
      refine c3.mono ?_
      rintro e w2 ⟨q, v2, hst, rfl, o2, b2⟩
      have hq := stopK_of hst
      have eR : recsN zs q = recsL zs := by unfold recsL; rw [hq]
      rw [eR] at o2
      have hpm := posN_le zs q
      have hok : rowOK zs = decide (zs.length ≤ posN zs q + 23) := by unfold rowOK goneL; rw [hq]
      obtain ⟨p, hp⟩ : ∃ p, posN zs q = p := ⟨_, rfl⟩
      rw [hp] at hpm hok ⊢
      rw [hm] at hpm hok hzl HRL
      obtain ⟨A2, ca2, rfl, g2⟩ := o2.good
      have hb2 := below_more (below_more hbe b1 (Nat.le_refl _)) b2 (Nat.le_refl _)
      have own2 := (hown.below b1).below b2
      obtain ⟨l2, hl2⟩ : ∃ l2, (recsL zs).length = l2 := ⟨_, rfl⟩
      rw [hl2] at HRL ⊢
      have HL2 := Lib.hid hl2
      have HOK := Lib.hid hok
      have hrl2 := HRL.out
      have hmb : m ≤ 8192 := by omega
      have hmn : m ≤ 16 * n := by omega
      have hpb : p ≤ 8192 := by omega
      clear hq eR hok hp hm hl2 c3 hst o1 o2 b1 b2 hown hbe g1 hzl HRL
      have hpi : (0 : Int) ≤ (m : Int) - p := by omega
      by_cases hbad : p + 23 < m
      · have hbi : (23 : Int) < (m : Int) - (p : Int) := by omega
        go_wp2
        go_ret2
        exact ⟨hb2, .inr ⟨HFA.out (by rw [HOK.out]; simp; omega), rfl⟩⟩
      · have hbi : ¬ ((23 : Int) < (m : Int) - (p : Int)) := by omega
        have HST2 := Lib.hid (HST.out (by rw [HOK.out]; simp; omega))
        have hsum : acc.length + l2 ≤ 5000 := by omega
        have hni : (n : Int) ≤ (r : Int) := by omega
        by_cases hcc : cc = n
        · have hrn : r = n := by omega
          subst hcc
          go_wp2_with (at_builtin; refine wpList_appendL rfl _ _ rfl w.heap.size _ acc rfl own2 _ (recsL zs) l2 _ rfl HL2.out g2 (by rw [HL2.out]; exact hsum) hb2.size ?_; intro v3 w3 own3 gr3 _ _)
          go_roundw
          case rel => exact ⟨k + cc, 0, 0, _, _, by omega, by omega, rfl, fun h => absurd h (by omega), HST2.out, own3, hb2.grown gr3 hb2.size (fun k e => (World.ownsRow.lt own2 k e).1)⟩
          case measure => simp [lenS]; omega
        · go_wp2_with (at_builtin; refine wpList_appendL rfl _ _ rfl w.heap.size _ acc rfl own2 _ (recsL zs) l2 _ rfl HL2.out g2 (by rw [HL2.out]; exact hsum) hb2.size ?_; intro v3 w3 own3 gr3 _ _)
          go_roundw
          case rel => exact ⟨k + n, r - n, cc - n, _, _, by omega, by omega, rfl, fun h => by rw [Nat.add_mul], HST2.out, own3, hb2.grown gr3 hb2.size (fun k e => (World.ownsRow.lt own2 k e).1)⟩
          case measure => simp [lenS]; omega
    · have hr0 : r = 0 := by omega
      subst hr0
      have h0d : decide (0 < 0) = false := by simp
      have HDN := Lib.hid hdone
      clear hdone hA
      go_wp2
      go_ret2
      exact ⟨hbe, .inl ⟨_, _, HDN.out.end_ (by rw [HL.out]; omega), rfl, hown⟩⟩
end Go.Proofs.YtdmkkfpbgpijjaaGreat

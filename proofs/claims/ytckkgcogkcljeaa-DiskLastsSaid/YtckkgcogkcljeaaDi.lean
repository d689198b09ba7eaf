/- The statements' helpers on a disk: Read, Image, Loose, Sectors at DiskAt; full, great, do, begin. -/
import Derived.Test.YtckkgcogkcljeaaDh
namespace Go.Proofs.Ytckkgcogkcljeaa
open Go.RowKit Go.Deep Go.Maps
attribute [local go_sem ↓] Go.wp_at_zero Go.wp_at_succ

theorem read_at (F : Nat → Prop) (db n i : Nat) (st : St) (zs : List Int) (w : World) (h : DiskAt w F db n st) (hi : i < n) (hz : nowAt st i = zs) :
    Calls Try.prog 21 #[.pointer (some ⟨db, 0, none⟩), .int .i64 i] w (ReadSays zs w) := by
  obtain ⟨lb, mb, cv, h, _⟩ := h
  exact read_ok db lb mb cv n i st zs hz w h hi
theorem read_out (F : Nat → Prop) (db n : Nat) (i : Int) (st : St) (w : World) (h : DiskAt w F db n st) (hg : goodAt n i = false) :
    Calls Try.prog 21 #[.pointer (some ⟨db, 0, none⟩), .int .i64 i] w fun e w' => e = .returned (.tuple #[.slice none 0 0, .int .i64 11]) ∧ w = w' := by
  obtain ⟨lb, mb, cv, h, _⟩ := h
  exact read_no db lb mb cv n i st w h hg
theorem image_at (F : Nat → Prop) (db n : Nat) (st : St) (zs : List Int) (w : World) (h : DiskAt w F db n st) (hn : n ≤ 300) (hz : st.safe.flatten = zs) :
    Calls Try.prog 25 #[.pointer (some ⟨db, 0, none⟩)] w (GivesB zs w) := by
  obtain ⟨lb, mb, cv, h, _⟩ := h
  exact image_any db lb mb cv n st zs hz w h hn
theorem loose_at (F : Nat → Prop) (db n l : Nat) (st : St) (w : World) (h : DiskAt w F db n st) (hl : st.cache.length = l) :
    Calls Try.prog 23 #[.pointer (some ⟨db, 0, none⟩)] w fun e w' => e = .returned (.int .i64 l) ∧ w = w' := by
  obtain ⟨lb, mb, cv, h, _⟩ := h
  obtain ⟨A, c, rfl, _⟩ := row_shape h.row
  subst hl
  exact loose_any db _ c A w h.c1
theorem sectors_at (F : Nat → Prop) (db n : Nat) (st : St) (w : World) (h : DiskAt w F db n st) :
    Calls Try.prog 24 #[.pointer (some ⟨db, 0, none⟩)] w fun e w' => e = .returned (.int .i64 n) ∧ w = w' := by
  obtain ⟨lb, mb, cv, h, _⟩ := h
  exact sectors_any db lb n w h.c0

/-! ### what the statements take -/
structure CallD where
  what : Int
  at_ : Int
  tear : Int
  A : Option Addr
  c : Nat
  zs : List Int
def Good0 (B : Nat) (w : World) (A : Option Addr) (c : Nat) (zs : List Int) : Prop := Ints .u8 B w A zs ∧ zs.length ≤ c ∧ (A = none → c = 0)
theorem Good0.good {B : Nat} {w : World} {A : Option Addr} {c : Nat} {zs : List Int} (h : Good0 B w A c zs) (hB : B ≤ w.heap.size) : Good A c zs w := ⟨h.1.more hB, h.2⟩
theorem Good0.below {B : Nat} {w w' : World} {A : Option Addr} {c : Nat} {zs : List Int} (h : Good0 B w A c zs) (hb : Below B w w') : Good0 B w' A c zs := ⟨h.1.below hb (Nat.le_refl _), h.2⟩
def CallAt (B : Nat) (w : World) (b f : Nat) (x : CallD) : Prop :=
  w.cell? ⟨b, f, none⟩ = some (.int .i64 x.what) ∧ w.cell? ⟨b, f + 1, none⟩ = some (.int .i64 x.at_) ∧ w.cell? ⟨b, f + 2, none⟩ = some (.int .i64 x.tear) ∧ w.cell? ⟨b, f + 3, none⟩ = some (.slice x.A x.zs.length x.c) ∧ Good0 B w x.A x.c x.zs
/-- A list of calls that came in. -/
def CallsAt (B : Nat) (w : World) (A : Option Addr) (cs : List CallD) : Prop := 0 < cs.length → ∃ b off, A = some ⟨b, off, none⟩ ∧ b < B ∧ ∀ j x, cs[j]? = some x → CallAt B w b (off + j * 4) x
theorem CallAt.below {B : Nat} {w w' : World} {b f : Nat} {x : CallD} (h : CallAt B w b f x) (hb : Below B w w') (hB : b < B) : CallAt B w' b f x := by
  have hc : ∀ o, w'.cell? ⟨b, o, none⟩ = w.cell? ⟨b, o, none⟩ := fun o => hb.cell (p := ⟨b, o, none⟩) hB
  obtain ⟨h1, h2, h3, h4, h5⟩ := h
  exact ⟨(hc _).trans h1, (hc _).trans h2, (hc _).trans h3, (hc _).trans h4, h5.below hb⟩
theorem CallsAt.below {B : Nat} {w w' : World} {A : Option Addr} {cs : List CallD} (h : CallsAt B w A cs) (hb : Below B w w') : CallsAt B w' A cs := fun h0 => by
  obtain ⟨b, off, e, hB, hx⟩ := h h0
  exact ⟨b, off, e, hB, fun j x hj => (hx j x hj).below hb hB⟩
def greatB (cs : List CallD) : Bool := decide (80 < cs.length) || cs.any fun x => decide (100 < x.zs.length)
theorem great_no {cs : List CallD} (h : greatB cs = false) : cs.length ≤ 80 ∧ ∀ x ∈ cs, x.zs.length ≤ 100 := by
  simp only [greatB, Bool.or_eq_false_iff, decide_eq_false_iff_not, List.any_eq_false, decide_eq_true_eq] at h
  exact ⟨by omega, fun x hx => by have := h.2 x hx; omega⟩
set_option maxHeartbeats 1000000 in
theorem great_any (A : Option Addr) (cs : List CallD) (l c B : Nat) (o : Bool) (w : World) (h : CallsAt B w A cs) (hl : cs.length = l) (hm : l ≤ maxLen) (ho : greatB cs = o) :
    Calls Try.prog 10 #[.slice A l c] w fun e w' => e = .returned (.bool o) ∧ w = w' := by
  unfold maxLen at hm
  subst ho
  by_cases h80 : 80 < l
  · have h80' : (80 : Int) < (l : Int) := by omega
    have ho : greatB cs = true := by unfold greatB; rw [hl]; simp [h80]
    have HO := Lib.hid ho
    have HL := Lib.hid hl
    clear ho hl
    go_enter Try.func10, Try.ntmps10
    go_wp2
    go_ret
    exact ⟨HO.out ▸ rfl, rfl⟩
  · have h80' : (l : Int) ≤ 80 := by omega
    have HL := Lib.hid hl
    clear hl
    go_enter Try.func10, Try.ntmps10
    go_wp2
    go_loop [3] (fun k => ∃ j : Nat, j ≤ l ∧ k = .int .i64 j ∧ ∀ q x, q < j → cs[q]? = some x → x.zs.length ≤ 100) (fun k => l - (intOf k).toNat)
    case atStart => exact ⟨0, by omega, rfl, fun q x hq => by omega⟩
    case round =>
      obtain ⟨j, hj, rfl, hp⟩ := hrel
      have HP := Lib.hid hp
      clear hp
      by_cases hlt : j < l
      · have hjc : j < cs.length := by rw [HL.out]; exact hlt
        have hx : cs[j]? = some cs[j] := List.getElem?_eq_getElem hjc
        obtain ⟨b, off, rfl, hB, hall⟩ := h (by omega)
        have hca := hall j _ hx
        have HX := Lib.hid hx
        clear hx
        generalize cs[j] = x at *
        have c3 := hca.2.2.2.1
        have hlt' : (j : Int) < (l : Int) := by omega
        clear hall hca
        by_cases h100 : 100 < x.zs.length
        · have ho : greatB cs = true := by
            unfold greatB
            rw [Bool.or_eq_true]
            refine .inr ?_
            rw [List.any_eq_true]
            exact ⟨x, List.mem_of_getElem? HX.out, by simpa using h100⟩
          have HO := Lib.hid ho
          clear ho
          have hi : (100 : Int) < (x.zs.length : Int) := by omega
          go_wp2
          go_ret
          exact ⟨HO.out ▸ rfl, rfl⟩
        · have hi : (x.zs.length : Int) ≤ 100 := by omega
          go_wp2
          go_round
          case rel =>
            refine ⟨j + 1, by omega, by go_num, fun q y hq hy => ?_⟩
            rcases Nat.lt_or_ge q j with h1 | h1
            · exact HP.out q y h1 hy
            · obtain rfl : q = j := by omega
              rw [HX.out] at hy
              injection hy with hy
              subst hy
              omega
          case measure => simp [intOf]; omega
      · obtain rfl : j = l := by omega
        have ho : greatB cs = false := by
          unfold greatB
          rw [Bool.or_eq_false_iff]
          refine ⟨by rw [HL.out]; simpa using h80, ?_⟩
          rw [List.any_eq_false]
          intro x hx
          obtain ⟨q, hq⟩ := List.getElem?_of_mem hx
          have hql : q < cs.length := by
            rcases Nat.lt_or_ge q cs.length with h1 | h1
            · exact h1
            · rw [List.getElem?_eq_none h1] at hq; cases hq
          have := HP.out q x (by rw [HL.out] at hql; exact hql) hq
          simp; omega
        have HO := Lib.hid ho
        clear ho
        go_wp2
        go_ret
        exact ⟨HO.out ▸ rfl, rfl⟩

/-! ### do, begin -/
def doS (n : Nat) (st : St) (x : CallD) : St := if x.what = 0 then writeT n st x.at_ x.zs else if x.what = 1 then flushS st else if x.what = 2 then crashS st x.at_ x.tear else st
theorem doS_len (n : Nat) (st : St) (x : CallD) : (doS n st x).cache.length ≤ st.cache.length + 1 := by
  unfold doS
  split
  · exact writeT_len _ _ _ _
  · split
    · simp [flushS]
    · split
      · simp [crashS]
      · omega
def callV (x : CallD) : Value := .agg #[.int .i64 x.what, .int .i64 x.at_, .int .i64 x.tear, .slice x.A x.zs.length x.c]
theorem does_more {F : Nat → Prop} {db n : Nat} {st : St} {v : Value} {w w1 w2 : World} {e : Ending} (hb : Below w.heap.size w w1) (h : Does F db n st v w1 e w2) (hF : ∀ k, F k → k < w.heap.size) : Does F db n st v w e w2 := by
  obtain ⟨h1, ⟨lb, mb, cv, hd, f0, f1, f2, f3, f4⟩, h3⟩ := h
  have hs := hb.size
  have hg : ∀ k, grow F w1 w2 k → grow F w w2 k := fun k hk => hk.elim .inl (fun e => .inr ⟨by omega, e.2⟩)
  refine ⟨h1, ⟨lb, mb, cv, hd, hg _ f0, hg _ f1, hg _ f2, fun k hk => hg _ (f3 k hk), fun k hk => ?_⟩, (moves_of_below hb).trans h3 (fun _ e => .inl e)⟩
  rcases hk with hk | hk
  · exact Nat.lt_of_lt_of_le (hF k hk) (Nat.le_trans hs h3.size)
  · exact hk.2
set_option maxRecDepth 100000 in
set_option maxHeartbeats 1000000 in
theorem do_any (F : Nat → Prop) (db n : Nat) (st st' : St) (x : CallD) (w : World) (h : DiskAt w F db n st) (hg : Good x.A x.c x.zs w) (hl : x.zs.length ≤ 100) (hc : st.cache.length ≤ 999) (hst : doS n st x = st') :
    Calls Try.prog 33 #[.pointer (some ⟨db, 0, none⟩), callV x] w (Does F db n st' (.tuple #[]) w) := by
  subst hst
  obtain ⟨what, at_, tear, A, c, zs⟩ := x
  simp only [callV] at *
  have hF := h.lt
  have hB : ∀ o : Obj, Below w.heap.size w (w.alloc o) := fun o => (Below.refl _ _).alloc (Nat.le_refl _) o
  have hd1 := fun o => h.below (hB o)
  have hn1 : ¬ F w.heap.size := fun e => by have := hF _ e; omega
  unfold doS
  by_cases h0 : what = 0
  · subst h0
    simp only [if_true]
    have H1 := Lib.hid (hd1 (.cells #[.int .i64 0, .int .i64 at_, .int .i64 tear, .slice A zs.length c] 34))
    have HB1 := Lib.hid (hB (.cells #[.int .i64 0, .int .i64 at_, .int .i64 tear, .slice A zs.length c] 34))
    have HG1 := Lib.hid (hg.alloc (.cells #[.int .i64 0, .int .i64 at_, .int .i64 tear, .slice A zs.length c] 34))
    clear hB hd1 h hg
    go_enter Try.func33, Try.ntmps33
    go_wp2_with fail
    have k1 : (w.alloc (.cells #[.int .i64 0, .int .i64 at_, .int .i64 tear, .slice A zs.length c] 34)).cell? ⟨w.heap.size, 1, none⟩ = some (.int .i64 at_) := by rw [cell_of_row _ _ _ _ _ _ (heap_alloc_new w _)]; rfl
    have k3 : (w.alloc (.cells #[.int .i64 0, .int .i64 at_, .int .i64 tear, .slice A zs.length c] 34)).cell? ⟨w.heap.size, 3, none⟩ = some (.slice A zs.length c) := by rw [cell_of_row _ _ _ _ _ _ (heap_alloc_new w _)]; rfl
    have hz : (w.alloc (.cells #[.int .i64 0, .int .i64 at_, .int .i64 tear, .slice A zs.length c] 34)).heap.size = w.heap.size + 1 := by simp
    generalize (w.alloc (.cells #[.int .i64 0, .int .i64 at_, .int .i64 tear, .slice A zs.length c] 34)) = W1 at *
    have HZ := Lib.hid hz
    have hlt : w.heap.size < W1.heap.size := by omega
    clear hz
    go_region_held3 (fun w' => w'.cell? ⟨w.heap.size, 1, none⟩ = some (.int .i64 at_) ∧ w'.cell? ⟨w.heap.size, 3, none⟩ = some (.slice A zs.length c))
      (first | exact ⟨k1, k3⟩ | exact ⟨(hb2.cell (p := ⟨w.heap.size, 1, none⟩) hlt).trans k1, (hb2.cell (p := ⟨w.heap.size, 3, none⟩) hlt).trans k3⟩ | exact ⟨(World.cell?_of_block (a := ⟨w.heap.size, 1, none⟩) (hm3.block _ (Nat.lt_of_lt_of_le hlt hb2.size) hn1)).trans ((hb2.cell (p := ⟨w.heap.size, 1, none⟩) hlt).trans k1), (World.cell?_of_block (a := ⟨w.heap.size, 3, none⟩) (hm3.block _ (Nat.lt_of_lt_of_le hlt hb2.size) hn1)).trans ((hb2.cell (p := ⟨w.heap.size, 3, none⟩) hlt).trans k3)⟩)
      (first | (go_at_call 13; refine (copyB A zs c _ rfl (by omega) _ (HG1.out.drewN 1)).mono ?_; rintro e w2 ⟨v, rfl, ho2, hb2⟩; obtain ⟨A2, c2, rfl, hg2⟩ := ho2.good) | (go_at_call 14; refine (write_any F db n at_ st _ A2 _ c2 zs _ w2 ((H1.out.below (below_drewN (Below.refl _ _) 1)).below hb2) rfl hg2 hc rfl rfl).mono ?_; rintro e w3 ⟨rfl, hd3, hm3⟩))
    all_goals
      go_wp2
      go_end0
      have hbw : Below w.heap.size w w2 := HB1.out.trans (Below.mono (show Below W1.heap.size W1 w2 from ⟨hb2.os, hb2.tape, hb2.output, hb2.size, hb2.block⟩) (by omega))
      exact ⟨rfl, (does_more (v := .int .i64 0) hbw ⟨rfl, hd3, hm3⟩ hF).2⟩
  · by_cases h1 : what = 1
    · subst h1
      simp only [if_true, if_neg h0]
      have H1 := Lib.hid (hd1 (.cells #[.int .i64 1, .int .i64 at_, .int .i64 tear, .slice A zs.length c] 34))
      have HB1 := Lib.hid (hB (.cells #[.int .i64 1, .int .i64 at_, .int .i64 tear, .slice A zs.length c] 34))
      clear hB hd1 h hg
      go_enter Try.func33, Try.ntmps33
      go_wp2_with fail
      refine (flush_any F db n st _ H1.out (by omega)).mono ?_
      rintro e w2 ⟨rfl, hd2, hm2⟩
      have HD := Lib.hid hd2
      have HM := Lib.hid hm2
      clear hd2 hm2
      go_wp2
      go_end0
      exact does_more HB1.out ⟨rfl, HD.out, HM.out⟩ hF
    · by_cases h2 : what = 2
      · subst h2
        simp only [if_true, if_neg h0, if_neg h1]
        have H1 := Lib.hid (hd1 (.cells #[.int .i64 2, .int .i64 at_, .int .i64 tear, .slice A zs.length c] 34))
        have HB1 := Lib.hid (hB (.cells #[.int .i64 2, .int .i64 at_, .int .i64 tear, .slice A zs.length c] 34))
        clear hB hd1 h hg
        go_enter Try.func33, Try.ntmps33
        go_wp2_with fail
        refine (crash_any F db n st at_ tear _ H1.out (by omega)).mono ?_
        rintro e w2 ⟨rfl, hd2, hm2⟩
        have HD := Lib.hid hd2
        have HM := Lib.hid hm2
        clear hd2 hm2
        go_wp2
        go_end0
        exact does_more HB1.out ⟨rfl, HD.out, HM.out⟩ hF
      · simp only [if_neg h0, if_neg h1, if_neg h2]
        have H1 := Lib.hid (hd1 (.cells #[.int .i64 what, .int .i64 at_, .int .i64 tear, .slice A zs.length c] 34))
        have HB1 := Lib.hid (hB (.cells #[.int .i64 what, .int .i64 at_, .int .i64 tear, .slice A zs.length c] 34))
        have e0 : (what == 0) = false := by simpa using h0
        have e1 : (what == 1) = false := by simpa using h1
        have e2 : (what == 2) = false := by simpa using h2
        clear hB hd1 h hg
        go_enter Try.func33, Try.ntmps33
        go_wp2
        go_end0
        exact does_more HB1.out ⟨rfl, H1.out.same, Moves.refl _ _⟩ hF

def runS (n : Nat) (cs : List CallD) : St := cs.foldl (doS n) (newS n)
theorem runS_snoc (n : Nat) (cs : List CallD) (x : CallD) : runS n (cs ++ [x]) = doS n (runS n cs) x := by simp [runS, List.foldl_append]
theorem runS_len (n : Nat) (cs : List CallD) : (runS n cs).cache.length ≤ cs.length := by
  suffices h : ∀ st : St, (cs.foldl (doS n) st).cache.length ≤ st.cache.length + cs.length by
    have := h (newS n)
    simpa [newS, runS] using this
  induction cs with
  | nil => intro st; simp
  | cons x cs ih =>
    intro st
    have h1 := ih (doS n st x)
    have h2 := doS_len n st x
    simp only [List.foldl_cons, List.length_cons]
    omega
def BeginSays (n : Nat) (st : St) (w : World) (e : Ending) (w' : World) : Prop := ∃ F db, e = .returned (.pointer (some ⟨db, 0, none⟩)) ∧ DiskAt w' F db n st ∧ (∀ k, F k → w.heap.size ≤ k) ∧ Below w.heap.size w w'
set_option maxRecDepth 100000 in
set_option maxHeartbeats 1000000 in
theorem begin_any (n : Nat) (A : Option Addr) (cs : List CallD) (l c : Nat) (st : St) (w : World) (h1 : 1 ≤ n) (h2 : n ≤ 512) (h : CallsAt w.heap.size w A cs) (hl : cs.length = l) (hgr : greatB cs = false) (hst : runS n cs = st) :
    Calls Try.prog 27 #[.int .i64 n, .slice A l c] w (BeginSays n st w) := by
  subst hst
  obtain ⟨g1, g2⟩ := great_no hgr
  have HL := Lib.hid hl
  have hl80 : l ≤ 80 := by omega
  have G2 := Lib.hid g2
  clear hl hgr g1 g2
  go_enter Try.func27, Try.ntmps27
  go_wp2_with fail
  refine (new_ok n w h1 h2).mono ?_
  rintro e w1 ⟨db, rfl, hd1, hb1⟩
  have HD1 := Lib.hid hd1
  clear hd1
  go_wp2
  go_loopw [7] (fun k wr => ∃ (j : Nat) (F : Nat → Prop), j ≤ l ∧ k = .int .i64 j ∧ DiskAt wr F db n (runS n (cs.take j)) ∧ (∀ k, F k → w.heap.size ≤ k) ∧ Below w.heap.size w wr) (fun k _ => l - (intOf k).toNat)
  case atStart => exact ⟨0, _, by omega, rfl, HD1.out, fun k hk => hk.1, hb1⟩
  case round =>
    obtain ⟨j, F, hj, rfl, hd, hF, hb⟩ := hrel
    by_cases hlt : j < l
    · have hjc : j < cs.length := by rw [HL.out]; exact hlt
      have hx : cs[j]? = some cs[j] := List.getElem?_eq_getElem hjc
      have hta := Lib.hid (List.take_succ_eq_append_getElem hjc)
      have hlx := G2.out _ (List.mem_of_getElem? hx)
      have hca := (h.below hb) (by omega)
      obtain ⟨b, off, rfl, hB, hall⟩ := hca
      obtain ⟨d0, d1, d2, d3, d4⟩ := hall j _ hx
      clear hall hx
      generalize cs[j] = x at *
      have hlt' : (j : Int) < (l : Int) := by omega
      have HD := Lib.hid hd
      have hr := runS_len n (cs.take j)
      rw [List.length_take] at hr
      have D4 := Lib.hid d4
      have hsz := hb.size
      clear hd d4
      go_wp2_with fail
      refine (do_any F db n _ _ x wr HD.out (D4.out.good hsz) hlx (by omega) rfl).mono ?_
      rintro e w2 ⟨rfl, hd2, hm2⟩
      have HD2 := Lib.hid hd2
      have HM2 := Lib.hid hm2
      clear hd2 hm2
      go_wp2
      go_roundw
      case rel =>
        refine ⟨j + 1, grow F wr w2, by omega, by go_num, ?_, ?_, hb.trans (HM2.out.below hsz hF)⟩
        · rw [hta.out, runS_snoc]; exact HD2.out
        · rintro k (hk | hk)
          · exact hF k hk
          · omega
      case measure => simp [intOf]; omega
    · obtain rfl : j = l := by omega
      have hd' : DiskAt wr F db n (runS n cs) := by rw [List.take_of_length_le (by rw [HL.out]; exact Nat.le_refl _)] at hd; exact hd
      have HD := Lib.hid hd'
      clear hd hd'
      go_wp2
      go_ret
      exact ⟨F, db, rfl, HD.out, hF, hb⟩

/-! ### full -/
theorem owns_cell {B g c : Nat} {w : World} {zs : List Int} (h : Owns B w (.slice (some ⟨g, 0, none⟩) zs.length c) zs) {j : Nat} (hj : j < zs.length) : w.cell? ⟨g, j, none⟩ = some (.int .u8 (zs[j]?.getD 0)) ∧ w.frozen? ⟨g, j, none⟩ = false := by
  rcases h.2 with ⟨h', _⟩ | ⟨g', cap', cur, h', hb, hg, hnc, hcm, hcs, htake⟩
  · simp at h'
  · simp only [Value.slice.injEq, Option.some.injEq, Addr.mk.injEq, and_true, true_and] at h'
    obtain ⟨rfl, rfl⟩ := h'
    refine ⟨?_, by simp [World.frozen?, hg]⟩
    have hc := World.ownsRow.cells h (g := g) rfl j (.int .u8 (zs[j]?.getD 0)) (by simp [hj])
    rwa [Go.WideShapes.add_plain, Nat.zero_add] at hc
theorem made_one (x : Value) (n : Nat) : (madeCells #[x] n).toList = List.replicate n x := by
  apply List.ext_getElem?
  intro j
  by_cases hj : j < n <;> simp [madeCells, Nat.mod_one, hj]
def filled (z : Int) (j : Nat) : List Int := List.replicate j z ++ List.replicate (32 - j) 0
theorem filled_len (z : Int) (j : Nat) (hj : j ≤ 32) : (filled z j).length = 32 := by simp [filled]; omega
theorem filled_set (z : Int) (j : Nat) (hj : j < 32) : (filled z j).set j z = filled z (j + 1) := by
  unfold filled
  rw [List.set_append_right _ _ (by simp), show 32 - j = (32 - (j + 1)) + 1 by omega, List.replicate_succ, List.length_replicate, Nat.sub_self, List.set_cons_zero, List.replicate_succ' (n := j), List.append_assoc]
  rfl
set_option maxRecDepth 100000 in
set_option maxHeartbeats 1000000 in
theorem full_any (z : Int) (zs : List Int) (w : World) (hzs : List.replicate 32 z = zs) : Calls Try.prog 28 #[.int .u8 z] w (GivesB zs w) := by
  obtain ⟨i0, hi, hz0, hz1, hz2⟩ := info_parts info_u8
  have hmk : ∀ w : World, (Instr.makeSlice 32 (.int .i64 32) (.int .i64 32)).run Try.prog w = .ok (.slice (some ⟨w.heap.size, 0, none⟩) 32 32) (w.alloc (.cells (madeCells #[Value.int .u8 0] 32) 5)) := by
    intro w
    have := run_make (P := Try.prog) w 32 5 i0 _ Try.underlying32 hi hz0 .i64 .i64 32 32 (by omega) (by omega) (by rw [hz2]; omega) (by omega)
    rw [hz1] at this
    simpa [Value.cells] using this
  have hC : (madeCells #[Value.int .u8 0] 32).toList = (filled z 0).map (Value.int .u8) := by
    rw [made_one, show filled z 0 = List.replicate 32 0 from rfl, List.map_replicate]
  have hown0 : Owns w.heap.size (w.alloc (.cells (madeCells #[Value.int .u8 0] 32) 5)) (.slice (some ⟨w.heap.size, 0, none⟩) 32 32) (filled z 0) := by
    unfold Owns
    rw [filled_len z 0 (by omega), ← hC]
    exact World.ownsRow_lit w _ 32 (Nat.le_refl _) (by simp only [maxLen]; omega) (by simp [madeCells])
  have HO := Lib.hid hown0
  have HZ := Lib.hid hzs
  clear hC hown0 hzs
  generalize madeCells #[Value.int .u8 0] 32 = C at *
  clear hi hz0 hz1 hz2
  go_enter Try.func28, Try.ntmps28
  go_wp2
  go_loopw [4] (fun k wr => ∃ j : Nat, j ≤ 32 ∧ k = .int .i64 j ∧ Owns w.heap.size wr (.slice (some ⟨w.heap.size, 0, none⟩) 32 32) (filled z j) ∧ Below w.heap.size w wr) (fun k _ => 32 - (intOf k).toNat)
  case atStart => exact ⟨0, by omega, rfl, HO.out, (Below.refl _ _).alloc (Nat.le_refl _) _⟩
  case round =>
    obtain ⟨j, hj, rfl, ho, hb⟩ := hrel
    by_cases hlt : j < 32
    · have hlen := filled_len z j hj
      have ho' : Owns w.heap.size wr (.slice (some ⟨w.heap.size, 0, none⟩) (filled z j).length 32) (filled z j) := by rw [hlen]; exact ho
      obtain ⟨k1, k2⟩ := owns_cell ho' (j := j) (by omega)
      have hst := World.ownsRow.stored ho' j (.int .u8 z)
      have HS := Lib.hid hst
      have hlt' : (j : Int) < 32 := by omega
      have HLN := Lib.hid hlen
      clear ho ho' hst hlen
      go_wp2
      go_roundw
      case rel =>
        refine ⟨j + 1, by omega, by go_num, ?_, hb.grown HS.out.2 hb.size (fun k e => by cases e; exact Nat.le_refl _)⟩
        have h1 := HS.out.1
        rw [HLN.out] at h1
        unfold Owns
        rw [filled_len z (j + 1) (by omega), ← filled_set z j hlt, List.map_set]
        exact h1
      case measure => simp [intOf]; omega
    · obtain rfl : j = 32 := by omega
      have HO2 := Lib.hid ho
      clear ho
      go_wp2
      go_ret
      refine ⟨_, rfl, ?_, hb⟩
      have e : filled z 32 = zs := by rw [← HZ.out]; simp [filled]
      rw [← e]
      exact HO2.out
end Go.Proofs.Ytckkgcogkcljeaa

/- The document's own log (concordatref05): Open. -/
import Derived.Test.YtdmkkfpbgpijjaaGreatWbt
import Derived.Test.YtdmkkfpbgpijjaaGreatWap
import Derived.Test.YtdmkkfpbgpijjaaGreatWbu
namespace Go.Proofs.YtdmkkfpbgpijjaaGreat
open Go.RowKit Go.Deep
set_option linter.unusedVariables false

theorem rowsAcc_ne (ss : List Sec) : ∀ cur, 0 < (rowsAcc cur ss).length := by
  induction ss with
  | nil => intro cur; simp [rowsAcc]
  | cons s ss ih => intro cur; rw [rowsAcc]; split <;> first | simp | exact ih _
/-- One sector more: a row more, or the last one goes on. -/
theorem rowsAcc_snoc (s : Sec) (ss : List Sec) : ∀ cur, rowsAcc cur (ss ++ [s]) = if s.beg then rowsAcc cur ss ++ [s.data] else (rowsAcc cur ss).set ((rowsAcc cur ss).length - 1) (((rowsAcc cur ss)[(rowsAcc cur ss).length - 1]?.getD []) ++ s.data) := by
  induction ss with
  | nil => intro cur; simp [rowsAcc]
  | cons x ss ih =>
    intro cur
    rw [List.cons_append, rowsAcc, rowsAcc]
    cases hx : x.beg
    · simp only [Bool.false_eq_true, if_false]
      exact ih _
    · simp only [if_true]
      rw [ih]
      have hp := rowsAcc_ne ss x.data
      cases s.beg
      · simp only [Bool.false_eq_true, if_false]
        obtain ⟨m, hm⟩ : ∃ m, (rowsAcc x.data ss).length = m + 1 := ⟨(rowsAcc x.data ss).length - 1, by omega⟩
        simp [hm]
      · simp
theorem rowsAcc_len (ss : List Sec) : ∀ cur, (rowsAcc cur ss).length ≤ ss.length + 1 := by
  induction ss with
  | nil => intro cur; simp [rowsAcc]
  | cons s ss ih =>
    intro cur
    rw [rowsAcc]
    split
    · have := ih s.data; simp; omega
    · have := ih (cur ++ s.data); simp; omega
theorem rowsAcc_sum (ss : List Sec) : ∀ cur, ((rowsAcc cur ss).map List.length).sum = cur.length + ((ss.map (·.data.length)).sum) := by
  induction ss with
  | nil => intro cur; simp [rowsAcc]
  | cons s ss ih =>
    intro cur
    rw [rowsAcc]
    split
    · simp [ih]
    · rw [ih]; simp; omega
theorem secsFrom_more (S : List (List Int)) (f k : Nat) (hf : 1 ≤ f) (hN : 0 < S.length) (h : secsFrom S f k = none) (j : Nat) : secsFrom S f (k + j) = none := by
  rw [secsFrom_there S f hf hN] at h ⊢
  exact cntF_more _ _ _ h j
theorem secsFrom_len (S : List (List Int)) (f k : Nat) (hf : 1 ≤ f) (hN : 0 < S.length) (cs : List Sec) (h : secsFrom S f k = some cs) : cs.length = k := by
  rw [secsFrom_there S f hf hN] at h
  exact cntF_len _ _ _ _ h
theorem tells_zero (S : List (List Int)) (h : lastN S = 0) : tells S = some (⟨1, 1, 1⟩, []) := by unfold tells; rw [if_pos h]
theorem tells_t1 (S : List (List Int)) (la : Nat) (s : Sec) (hl : lastN S = la) (h0 : la ≠ 0) (hs : secN S la = some s) (hc : s.first < 1 ∨ la < s.first ∨ S.length ≤ la - s.first) : tells S = none := by
  unfold tells
  rw [hl, if_neg h0, hs]
  simp only
  rw [if_pos hc]
theorem tells_t2 (S : List (List Int)) (la : Nat) (s : Sec) (hl : lastN S = la) (h0 : la ≠ 0) (hs : secN S la = some s) (hc : ¬ (s.first < 1 ∨ la < s.first ∨ S.length ≤ la - s.first)) (h2 : secsFrom S s.first (la - s.first + 1) = none) : tells S = none := by
  unfold tells
  rw [hl, if_neg h0, hs]
  simp only
  rw [if_neg hc, h2]
theorem tells_t3 (S : List (List Int)) (la : Nat) (s : Sec) (hl : lastN S = la) (h0 : la ≠ 0) (hs : secN S la = some s) (hc : ¬ (s.first < 1 ∨ la < s.first ∨ S.length ≤ la - s.first)) (ss : List Sec) (h2 : secsFrom S s.first (la - s.first + 1) = some ss) (h3 : (rowsAcc [] ss).all rowOK = false) : tells S = none := by
  have h4 : tellR ss = none := by unfold tellR; rw [h3]; rfl
  unfold tells
  rw [hl, if_neg h0, hs]
  simp only
  rw [if_neg hc, h2]
  simp only [h4]
theorem tells_t4 (S : List (List Int)) (la : Nat) (s : Sec) (hl : lastN S = la) (h0 : la ≠ 0) (hs : secN S la = some s) (hc : ¬ (s.first < 1 ∨ la < s.first ∨ S.length ≤ la - s.first)) (ss : List Sec) (h2 : secsFrom S s.first (la - s.first + 1) = some ss) (h3 : (rowsAcc [] ss).all rowOK = true) : tells S = some (⟨la + 1, s.first, s.first⟩, (rowsAcc [] ss).flatMap recsL) := by
  have h4 : tellR ss = some ((rowsAcc [] ss).flatMap recsL) := by unfold tellR; rw [h3]; rfl
  unfold tells
  rw [hl, if_neg h0, hs]
  simp only
  rw [if_neg hc, h2]
  simp only [h4]
theorem sum_le16 (ss : List Sec) (h : ∀ s ∈ ss, s.data.length ≤ 16) : (ss.map (·.data.length)).sum ≤ 16 * ss.length := by
  induction ss with
  | nil => simp
  | cons s ss ih =>
    have h1 := h s List.mem_cons_self
    have h2 := ih (fun x hx => h x (List.mem_cons_of_mem _ hx))
    simp; omega
theorem mem_le_sum : ∀ (L : List (List Int)) (x : List Int), x ∈ L → x.length ≤ (L.map List.length).sum
  | [], x, h => by cases h
  | y :: L, x, h => by
    rcases List.mem_cons.1 h with e | e
    · rw [e]; simp
    · have := mem_le_sum L x e; simp; omega
theorem rows_le (ss : List Sec) (h : ∀ s ∈ ss, s.data.length ≤ 16) (x : List Int) (hx : x ∈ rowsAcc [] ss) : x.length ≤ 16 * ss.length := by
  have h1 := mem_le_sum _ x hx
  rw [rowsAcc_sum] at h1
  have h2 := sum_le16 ss h
  simp at h1; omega
theorem good_grown {A : Option Addr} {c : Nat} {zs : List Int} {w w' : World} {row : Option Nat} (g : Good A c zs w) (hg : w.grownBy w' row) (hne : ∀ a, A = some a → some a.block ≠ row) : Good A c zs w' := by
  refine ⟨fun h0 => ?_, g.2⟩
  obtain ⟨b', off, rfl, hlt, hc⟩ := g.1 h0
  exact ⟨b', off, rfl, Nat.lt_of_lt_of_le hlt hg.size, fun j hj => (World.cell?_of_block (a := ⟨b', off + j, none⟩) (hg.block b' hlt (hne _ rfl))).trans (hc j hj)⟩
theorem rows_bytes (ss : List Sec) (h : ∀ s ∈ ss, isBytes s.data) : ∀ x ∈ rowsAcc [] ss, isBytes x := by
  have hg : ∀ (ss : List Sec) (cur : List Int), isBytes cur → (∀ s ∈ ss, isBytes s.data) → ∀ x ∈ rowsAcc cur ss, isBytes x := by
    intro ss
    induction ss with
    | nil => intro cur hc _ x hx; simp [rowsAcc] at hx; rw [hx]; exact hc
    | cons s ss ih =>
      intro cur hc hs x hx
      have h1 := hs s List.mem_cons_self
      have h2 := fun y hy => hs y (List.mem_cons_of_mem _ hy)
      rw [rowsAcc] at hx
      split at hx
      · rcases List.mem_cons.1 hx with e | e
        · rw [e]; exact hc
        · exact ih s.data h1 h2 x e
      · exact ih (cur ++ s.data) (hc.append h1) h2 x hx
  exact hg ss [] (fun z hz => by cases hz) h
theorem recs_sum (L : List (List Int)) : 3 * (L.flatMap recsL).length ≤ (L.map List.length).sum := by
  induction L with
  | nil => simp
  | cons x L ih =>
    have h1 := recs_len x
    rw [List.flatMap_cons, List.length_append, List.map_cons, List.sum_cons]; omega
theorem sum_take_le (L : List (List Int)) (n : Nat) : ((L.take n).map List.length).sum ≤ (L.map List.length).sum := by
  conv => rhs; rw [← List.take_append_drop n L]
  rw [List.map_append, List.sum_append]; omega
theorem RLogIn.sure_set {w : World} {gb rb : Nat} {next first sure : Nat} (h : RLogIn w gb rb ⟨next, first, sure⟩) (x : Nat) : RLogIn (w.setCell ⟨gb, 3, none⟩ (.int .i64 (x : Int))) gb rb ⟨next, first, x⟩ :=
  ⟨(World.cell?_setCell_other _ _ _ _ (by simp)).trans h.c0, (World.cell?_setCell_other _ _ _ _ (by simp)).trans h.c1, (World.cell?_setCell_other _ _ _ _ (by simp)).trans h.c2, World.cell?_setCell_same _ _ _ h.c3, fun i => by rw [World.frozen?_setCell]; exact h.fz i⟩
def ROpenSays (t : Option (LogD × List RecD)) (rb : Nat) (w : World) (e : Ending) (w' : World) : Prop :=
  match t with
  | some (lg, rs) => ∃ gb v, e = .returned (.tuple #[.pointer (some ⟨gb, 0, none⟩), v, .int .i64 0]) ∧ RLogIn w' gb rb lg ∧ w.heap.size ≤ gb ∧ OwnsR w.heap.size w' v rs ∧ v.ownBlock ≠ some gb ∧ Below w.heap.size w w'
  | none => e = .returned (.tuple #[.pointer none, .slice none 0 0, .int .i64 21]) ∧ Below w.heap.size w w'
theorem rlogIn_new (W : World) (rb next first sure : Nat) : RLogIn (W.alloc (.cells #[.pointer (some ⟨rb, 0, none⟩), .int .i64 next, .int .i64 first, .int .i64 sure] 48)) W.heap.size rb ⟨next, first, sure⟩ := by
  have hb := heap_alloc_new W (.cells #[.pointer (some ⟨rb, 0, none⟩), .int .i64 next, .int .i64 first, .int .i64 sure] 48)
  generalize W.alloc (.cells #[.pointer (some ⟨rb, 0, none⟩), .int .i64 next, .int .i64 first, .int .i64 sure] 48) = V at *
  have hc : ∀ j, V.cell? ⟨W.heap.size, j, none⟩ = _ := fun j => cell_of_row V _ j _ 48 (0, 0) hb
  exact ⟨(hc 0).trans rfl, (hc 1).trans rfl, (hc 2).trans rfl, (hc 3).trans rfl, fun i => by simp [World.frozen?, hb]⟩

set_option maxRecDepth 100000 in
set_option maxHeartbeats 4000000 in
theorem refOpen_of (HA : ∀ (A : Option Addr) (l c : Nat) (zs : List Int), zs.length = l → l ≤ 3000 → isBytes zs → ∀ W : World, Good A c zs W → Calls Tryz.prog 38 #[.slice A l c] W (AllSays zs W))
    (G : Nat → Prop) (rb N : Nat) (st : St) (S : List (List Int)) (w : World) (h : RefAt w G rb N st) (hS : nows st = S) (hw : Wf N st) (hb : BytesD st) (hN1 : 1 ≤ N) (hN : N ≤ 60) (hc : st.cache.length ≤ 1000) :
    Calls Tryz.prog 9 #[.pointer (some ⟨rb, 0, none⟩)] w (ROpenSays (tells S) rb w) := by
  obtain ⟨sb, capN, r0⟩ := safe_cell h
  have hrl : rb < w.heap.size := World.block_lt_of_cell? w _ r0
  have HSL := Lib.hid (show S.length = N by rw [← hS]; exact hw.nows_len)
  have HSB := Lib.hid (fun i (hi : i < N) => (show (secAt S i).length = 32 ∧ isBytes (secAt S i) by rw [← hS]; exact ⟨hw.now_len hi, now_bytes hb hw i hi⟩))
  have HL0 := Lib.hid (rlogIn_new w rb 1 1 1)
  have hB0 : Below w.heap.size w (w.alloc (.cells #[.pointer (some ⟨rb, 0, none⟩), .int .i64 1, .int .i64 1, .int .i64 1] 48)) := (Below.refl _ _).alloc (Nat.le_refl _) _
  have hs0 : (w.alloc (.cells #[.pointer (some ⟨rb, 0, none⟩), .int .i64 1, .int .i64 1, .int .i64 1] 48)).heap.size = w.heap.size + 1 := World.size_alloc _ _
  have HSZ := Lib.hid hs0
  have HH := Lib.hid h
  have HHS := Lib.hid hS
  have cR := Lib.hid (fun (i : Nat) (hi : i < N) (W : World) (hW : Below w.heap.size w W) => rread_ok G rb N i st (secAt S i) W (h.below hW) hi (by rw [← hS]; rfl) hc)
  clear hs0 h hS hw hb
  go_enter Tryz.func9, Tryz.ntmps9
  go_wp2
  generalize w.alloc (.cells #[.pointer (some ⟨rb, 0, none⟩), .int .i64 1, .int .i64 1, .int .i64 1] 48) = W0 at *
  go_loopw [6, 7] (fun x i wr => ∃ k : Nat, k ≤ N ∧ i = .int .i64 k ∧ x = .int .i64 (lastUpto S k : Nat) ∧ Below (w.heap.size + 1) W0 wr) (fun _ i _ => N - (intOf i).toNat)
  case atStart => exact ⟨0, Nat.zero_le _, rfl, rfl, Below.refl _ _⟩
  case round =>
    obtain ⟨k, hk, rfl, rfl, hbe⟩ := hrel
    have hbw : Below w.heap.size w wr := hB0.trans (hbe.mono (by omega))
    have q0 : wr.cell? ⟨rb, 0, none⟩ = some (.slice (some ⟨sb, 0, none⟩) N capN) := (hbw.cell (p := ⟨rb, 0, none⟩) hrl).trans r0
    have hs1 : w.heap.size + 1 ≤ wr.heap.size := by have := hbe.size; rw [HSZ.out] at this; exact this
    obtain ⟨la, hla⟩ : ∃ la, lastUpto S k = la := ⟨_, rfl⟩
    rw [hla]
    have HLA := Lib.hid hla
    clear hla
    by_cases hlt : k < N
    · have hlti : (k : Int) < (N : Int) := by omega
      have hltd : decide (k < N) = true := by simpa using hlt
      obtain ⟨hzl, hzb⟩ := HSB.out k hlt
      have c1 := cR.out k hlt wr hbw
      have c2 := fun A c W g => refRead A c (secAt S k) hzl hzb W g
      unfold GivesR at c1
      rw [hzl] at c1
      have HCN := Lib.hid (show lastUpto S (k + 1) = max la (counts S k) by rw [lastUpto, HLA.out])
      have HCs := Lib.hid (show ∀ s, readS (secAt S k) = some s → counts S k = if 1 ≤ s.n ∧ placeOf N s.n = k then s.n else 0 from fun s hs => by unfold counts; rw [HSL.out, hs])
      have HCn := Lib.hid (show readS (secAt S k) = none → counts S k = 0 from fun hs => by unfold counts; rw [hs])
      have HRO := Lib.hid (fun s (hs : readS (secAt S k) = some s) => readS_ok hzl hzb hs)
      generalize secAt S k = z at *
      go_wp2_with fail
      refine c1.mono ?_
      clear c1
      rintro e w1 ⟨A1, c1, rfl, g1, b1⟩
      have b1' := hbe.trans (b1.mono hs1)
      have p0 : w1.cell? ⟨rb, 0, none⟩ = some (.slice (some ⟨sb, 0, none⟩) N capN) := (b1.cell (p := ⟨rb, 0, none⟩) (Nat.lt_of_lt_of_le hrl hbw.size)).trans q0
      have hr1 : rb < w1.heap.size := Nat.lt_of_lt_of_le hrl (Nat.le_trans hbw.size b1.size)
      clear hbe b1 hbw q0
      cases hrs : readS z with
      | none =>
        have c3 := (c2 A1 c1 w1 g1).2 hrs
        have HC0 := Lib.hid (HCn.out hrs)
        unfold ReadNo at c3
        clear c2 hrs
        go_wp2_with fail
        refine c3.mono ?_
        clear c3
        rintro e w2 ⟨rfl, b2⟩
        go_wp2
        go_roundw
        case rel => exact ⟨k + 1, by omega, by go_num, by rw [HCN.out, HC0.out, Nat.max_eq_left (Nat.zero_le _)], b1'.trans (b2.mono (by have := b1'.size; rw [HSZ.out] at this; exact this))⟩
        case measure => simp [intOf]; omega
      | some s =>
        have c3 := (c2 A1 c1 w1 g1).1 s hrs
        have HC1 := Lib.hid (HCs.out s hrs)
        obtain ⟨_, hsn, _, _⟩ := HRO.out s hrs
        unfold ReadYes at c3
        clear c2 hrs
        go_wp2_with fail
        refine c3.mono ?_
        clear c3
        rintro e w2 ⟨A2, c2, rfl, g2, b2, _⟩
        have hw2 : Below (w.heap.size + 1) W0 w2 := b1'.trans (b2.mono (by have := b1'.size; rw [HSZ.out] at this; exact this))
        have p2 := (b2.cell (p := ⟨rb, 0, none⟩) hr1).trans p0
        clear p0 g2 b2 b1' g1
        obtain ⟨n, hn⟩ : ∃ n, s.n = n := ⟨_, rfl⟩
        rw [hn] at HC1 hsn ⊢
        clear hn
        by_cases h1 : 1 ≤ n
        · have h1i : (1 : Int) ≤ (n : Int) := by omega
          have h1d : decide ((1 : Int) ≤ (n : Int)) = true := by simp; omega
          obtain ⟨i, hi⟩ : ∃ i, placeOf N n = i := ⟨_, rfl⟩
          have him : ((n : Int) - 1) % (N : Int) = (i : Int) := by rw [← hi, show (n : Int) - 1 = ((n - 1 : Nat) : Int) by omega]; exact (Int.natCast_emod _ _).symm
          have hN0 : ((N : Int) == 0) = false := by simp; omega
          have hnz : ¬ (N : Int) = 0 := by omega
          have hp0 : (0 : Int) ≤ (n : Int) - 1 := by omega
          have hnz2 : ¬ N = 0 := by omega
          rw [hi] at HC1
          have HIM := Lib.hid him
          clear hi
          by_cases hik : i = k
          · have hike : ((i : Int) == (k : Int)) = true := by simp [hik]
            have hike2 : (i == k) = true := by simp [hik]
            have HC2 := Lib.hid (show counts S k = n by rw [HC1.out, if_pos ⟨h1, hik⟩])
            clear hik
            by_cases hmx : la < n
            · have hmi : (la : Int) < (n : Int) := by omega
              go_wp2
              go_roundw
              case rel => exact ⟨k + 1, by omega, by go_num, by rw [HCN.out, HC2.out, Nat.max_eq_right (by omega)], hw2⟩
              case measure => simp [intOf]; omega
            · have hmi : ¬ ((la : Int) < (n : Int)) := by omega
              have hmj : (n : Int) ≤ (la : Int) := by omega
              go_wp2
              go_roundw
              case rel => exact ⟨k + 1, by omega, by go_num, by rw [HCN.out, HC2.out, Nat.max_eq_left (by omega)], hw2⟩
              case measure => simp [intOf]; omega
          · have hike : ((i : Int) == (k : Int)) = false := by simp; omega
            have hike2 : (i == k) = false := by simp; exact hik
            have HC2 := Lib.hid (show counts S k = 0 by rw [HC1.out, if_neg (fun h => hik h.2)])
            clear hik
            go_wp2
            go_roundw
            case rel => exact ⟨k + 1, by omega, by go_num, by rw [HCN.out, HC2.out, Nat.max_eq_left (Nat.zero_le _)], hw2⟩
            case measure => simp [intOf]; omega
        · have h1i : ¬ ((1 : Int) ≤ (n : Int)) := by omega
          have h1d : decide ((1 : Int) ≤ (n : Int)) = false := by simp; omega
          have HC2 := Lib.hid (show counts S k = 0 by rw [HC1.out, if_neg (fun h => h1 h.1)])
          go_wp2
          go_roundw
          case rel => exact ⟨k + 1, by omega, by go_num, by rw [HCN.out, HC2.out, Nat.max_eq_left (Nat.zero_le _)], hw2⟩
          case measure => simp [intOf]; omega
    · have hge : ¬ ((k : Int) < (N : Int)) := by omega
      have hltd : decide (k < N) = false := by simpa using hlt
      obtain rfl : k = N := by omega
      have HLN := Lib.hid (show lastN S = la by unfold lastN; rw [HSL.out, HLA.out])
      have p3 := (hbe.cell (p := ⟨w.heap.size, 0, none⟩) (by show w.heap.size < _; omega)).trans HL0.out.c0
      have hlog := Lib.hid (HL0.out.kept (hbe.block w.heap.size (by omega)))
      clear cR
      by_cases hz : la = 0
      · have hzb : ((la : Int) == 0) = true := by simp [hz]
        have HZ := Lib.hid hz
        clear hz
        go_wp2
        go_ret3
        unfold ROpenSays
        rw [tells_zero S (by rw [HLN.out, HZ.out])]
        have hbw : Below w.heap.size w wr := hB0.trans (hbe.mono (by omega))
        have hs1 : w.heap.size + 1 ≤ wr.heap.size := by have := hbe.size; rw [HSZ.out] at this; exact this
        have hal : Below wr.heap.size wr (wr.alloc (.cells #[] 63)) := (Below.refl _ _).alloc (Nat.le_refl _) _
        refine ⟨w.heap.size, _, rfl, hlog.out.below hal, Nat.le_refl _, (ownsR_lit wr).base hbw.size, fun e => ?_, below_more hbw hal (Nat.le_refl _)⟩
        have e2 : wr.heap.size = w.heap.size := by simpa [Value.ownBlock] using e
        omega
      · have hzb : ((la : Int) == 0) = false := by simp; exact hz
        have HZ := Lib.hid hz
        have hsl := secN_last S (by rw [HLN.out]; exact hz)
        rw [HLN.out] at hsl
        generalize lastL (thereL S) = s at hsl
        have HT1 := Lib.hid (tells_t1 S la s HLN.out hz hsl)
        have HT2 := Lib.hid (tells_t2 S la s HLN.out hz hsl)
        have HT3 := Lib.hid (tells_t3 S la s HLN.out hz hsl)
        have HT4 := Lib.hid (tells_t4 S la s HLN.out hz hsl)
        obtain ⟨hsn, hrs⟩ := secN_some hsl
        rw [HSL.out] at hrs HT1 HT2 HT3 HT4
        obtain ⟨i, hi⟩ : ∃ i, placeOf k la = i := ⟨_, rfl⟩
        rw [hi] at hrs
        have hik : i < k := by rw [← hi]; exact placeOf_lt _ _ (by omega)
        obtain ⟨hzl, hzb2⟩ := HSB.out i hik
        obtain ⟨s16, sn32, sf32, _⟩ := readS_ok hzl hzb2 hrs
        have hlab : la < 4294967296 := by omega
        have hng : ¬ G w.heap.size := fun e => by have := HH.out.lt _ e; omega
        have HRL := Lib.hid (fun (W : World) (hW : Below (w.heap.size + 1) W0 W) => (show RLogAt W G w.heap.size rb k st ⟨1, 1, 1⟩ from ⟨HL0.out.kept (hW.block w.heap.size (by omega)), HH.out.below (hB0.trans (hW.mono (by omega))), hng⟩))
        have hnow : ∀ j, nowAt st j = secAt S j := fun j => by rw [← HHS.out]; rfl
        have HNOW := Lib.hid hnow
        have cA := refAt_some G w.heap.size rb k la i st ⟨1, 1, 1⟩ s (by omega) (by omega) hi hN hN1 (by rw [hnow]; exact hzb2) (by rw [hnow]; exact hzl) (by rw [hnow]; exact hrs) hc wr (HRL.out wr hbe)
        clear hnow hi hrs hzl hzb2 hsl HLA HLN hz
        go_wp2_with fail
        refine cA.mono ?_
        clear cA
        rintro e w1 ⟨A1, c1, rfl, _, b1, _⟩
        have hs1 : w.heap.size + 1 ≤ wr.heap.size := by have := hbe.size; rw [HSZ.out] at this; exact this
        have hb1 := hbe.trans (b1.mono hs1)
        have hbw1 : Below w.heap.size w w1 := hB0.trans (hb1.mono (by omega))
        have q0 : w1.cell? ⟨rb, 0, none⟩ = some (.slice (some ⟨sb, 0, none⟩) k capN) := (hbw1.cell (p := ⟨rb, 0, none⟩) hrl).trans r0
        obtain ⟨f, hf⟩ : ∃ f, s.first = f := ⟨_, rfl⟩
        rw [hf] at HT1 HT2 HT3 HT4 sf32 ⊢
        generalize decide (s.n = la) = dn
        generalize s.data.length = dl
        generalize s.beg = sbg
        clear hf hsn s16 sn32 b1 hbe p3 hlog
        by_cases hcond : f < 1 ∨ la < f ∨ k ≤ la - f
        · have HTN := Lib.hid (HT1.out hcond)
          have hfin := Lib.hid (show ROpenSays (tells S) rb w (.returned (.tuple #[.pointer none, .slice none 0 0, .int .i64 21])) w1 by rw [HTN.out]; exact ⟨rfl, hbw1⟩)
          by_cases c1' : f < 1
          · have d1 : decide ((f : Int) < 1) = true := by simp; omega
            have d1' : (f : Int) < 1 := by omega
            go_wp2
            go_ret3
            exact hfin.out
          · have d1 : decide ((f : Int) < 1) = false := by simp; omega
            have d1' : ¬ ((f : Int) < 1) := by omega
            by_cases c2' : la < f
            · have d2 : decide ((la : Int) < (f : Int)) = true := by simp; omega
              have d2' : decide (la < f) = true := by simpa using c2'
              go_wp2
              go_ret3
              exact hfin.out
            · have d2 : decide ((la : Int) < (f : Int)) = false := by simp; omega
              have d2' : decide (la < f) = false := by simpa using c2'
              have d3 : decide ((k : Int) ≤ (la : Int) - (f : Int)) = true := by simp; omega
              go_wp2
              go_ret3
              exact hfin.out
        · have d1 : decide ((f : Int) < 1) = false := by simp; omega
          have d1' : ¬ ((f : Int) < 1) := by omega
          have d2 : decide ((la : Int) < (f : Int)) = false := by simp; omega
          have d2' : decide (la < f) = false := by simp; omega
          have d3 : decide ((k : Int) ≤ (la : Int) - (f : Int)) = false := by simp; omega
          have d4 : ¬ ((k : Int) ≤ (la : Int) - (f : Int)) := by omega
          have HCD := Lib.hid hcond
          have hf1 : 1 ≤ f := by omega
          have hfl : f ≤ la := by omega
          have hsw : w.heap.size + 1 ≤ w1.heap.size := by have := hb1.size; rw [HSZ.out] at this; exact this
          have HRT := Lib.hid (rowsT_start w1 (w.heap.size + 1) hsw)
          have HB2 := Lib.hid (show Below (w.heap.size + 1) W0 ((w1.alloc (.cells #[] 5)).alloc (.cells #[.slice (some ⟨w1.heap.size, 0, none⟩) 0 0] 39)) from (hb1.alloc hsw _).alloc (by simp; omega) _)
          clear hcond hbw1 hb1
          go_wp2
          clear q0
          generalize (w1.alloc (.cells #[] 5)).alloc (.cells #[.slice (some ⟨w1.heap.size, 0, none⟩) 0 0] 39) = W2 at *
          go_loopw [18, 19] (fun v n wr => ∃ (j : Nat) (us : List Value) (ss : List Sec), f + j ≤ la + 1 ∧ n = .int .i64 ((f + j : Nat) : Int) ∧ secsFrom S f j = some ss ∧ (∀ s ∈ ss, s.data.length ≤ 16 ∧ isBytes s.data) ∧ RowsT (w.heap.size + 1) wr v us (rowsAcc [] ss) ∧ Below (w.heap.size + 1) W0 wr) (fun _ n _ => la + 1 - (intOf n).toNat)
          case atStart => exact ⟨0, _, [], by omega, rfl, rfl, (fun s hs => by cases hs), HRT.out, HB2.out⟩
          case round =>
            obtain ⟨j, us, ss, hj, rfl, hss, hsok, hrt, hbe⟩ := hrel
            obtain ⟨nn, hnn⟩ : ∃ nn, f + j = nn := ⟨_, rfl⟩
            rw [hnn]
            have hswr : w.heap.size + 1 ≤ wr.heap.size := by have := hbe.size; rw [HSZ.out] at this; exact this
            have HNN := Lib.hid hnn
            have HSS := Lib.hid hss
            have HSO := Lib.hid hsok
            have hjl := secsFrom_len S f j hf1 (by rw [HSL.out]; omega) ss hss
            by_cases hle : nn ≤ la
            · have hlei : (nn : Int) ≤ (la : Int) := by omega
              have hled : decide (nn ≤ la) = true := by simpa using hle
              obtain ⟨i2, hi2⟩ : ∃ i2, placeOf k nn = i2 := ⟨_, rfl⟩
              have hi2k : i2 < k := by rw [← hi2]; exact placeOf_lt _ _ (by omega)
              obtain ⟨hzl, hzb2⟩ := HSB.out i2 hi2k
              have HSN := Lib.hid (show secsFrom S f (j + 1) = match secN S nn with | some s => some (ss ++ [s]) | none => none by
                rw [secsFrom, hss, hnn]
                cases secN S nn <;> rfl)
              have HSE := Lib.hid (show secN S nn = match readS (secAt S i2) with | some s => if s.n = nn then some s else none | none => none by unfold secN; rw [HSL.out, hi2]; cases readS (secAt S i2) <;> rfl)
              have HNO := Lib.hid (show secsFrom S f (j + 1) = none → ROpenSays (tells S) rb w = fun e w' => e = .returned (.tuple #[.pointer none, .slice none 0 0, .int .i64 21]) ∧ Below w.heap.size w w' from fun hn => by
                have h2 := secsFrom_more S f (j + 1) hf1 (by rw [HSL.out]; omega) hn (la - f + 1 - (j + 1))
                rw [show j + 1 + (la - f + 1 - (j + 1)) = la - f + 1 by omega] at h2
                rw [HT2.out HCD.out h2]
                rfl)
              have cN := fun hr => refAt_none G w.heap.size rb k nn i2 st ⟨1, 1, 1⟩ (by omega) (by omega) hi2 hN hN1 (by rw [HNOW.out]; exact hzb2) (by rw [HNOW.out]; exact hzl) hr hc wr (HRL.out wr hbe)
              have cY := fun s hr => refAt_some G w.heap.size rb k nn i2 st ⟨1, 1, 1⟩ s (by omega) (by omega) hi2 hN hN1 (by rw [HNOW.out]; exact hzb2) (by rw [HNOW.out]; exact hzl) hr hc wr (HRL.out wr hbe)
              rw [HNOW.out] at cN cY
              have HRO := Lib.hid (fun s (hs : readS (secAt S i2) = some s) => readS_ok hzl hzb2 hs)
              clear hnn hss hsok hi2 hzl hzb2
              generalize secAt S i2 = z at *
              cases hrs : readS z with
              | none =>
                have c3 := cN hrs
                have HE := Lib.hid (HNO.out (by rw [HSN.out, HSE.out, hrs]))
                clear cN cY hrs
                go_wp2_with fail
                refine c3.mono ?_
                clear c3
                rintro e w2 ⟨rfl, b2⟩
                go_wp2
                go_ret3
                rw [HE.out]
                exact ⟨rfl, hB0.trans ((hbe.trans (b2.mono hswr)).mono (by omega))⟩
              | some s =>
                have c3 := cY s hrs
                by_cases hsn : s.n = nn
                · rw [show decide (s.n = nn) = true by simpa using hsn] at c3
                  have HS1 := Lib.hid (show secsFrom S f (j + 1) = some (ss ++ [s]) by rw [HSN.out, HSE.out, hrs]; simp only; rw [if_pos hsn])
                  obtain ⟨s16, _, _, sby⟩ := HRO.out s hrs
                  clear cN cY hrs hsn HNO
                  go_wp2_with fail
                  refine c3.mono ?_
                  clear c3
                  rintro e w2 ⟨A2, c2, rfl, g2, b2, fr2⟩
                  have rt2 := hrt.kept b2
                  have hlen := hrt.len
                  have hRp := rowsAcc_ne ss []
                  have hRl := rowsAcc_len ss []
                  have HRS := Lib.hid (rowsAcc_snoc s ss [])
                  have HRLE := Lib.hid (rows_le ss (fun x hx => (HSO.out x hx).1))
                  have hb2 : Below (w.heap.size + 1) W0 w2 := hbe.trans (b2.mono hswr)
                  have hsw2 : w.heap.size + 1 ≤ w2.heap.size := Nat.le_trans hswr b2.size
                  have hss60 : ss.length ≤ 61 := by omega
                  have HMEM := Lib.hid (show ∀ x ∈ ss ++ [s], x.data.length ≤ 16 ∧ isBytes x.data from fun x hx => by
                    rcases List.mem_append.1 hx with y | y
                    · exact HSO.out x y
                    · rw [List.mem_singleton.1 y]; exact ⟨s16, sby⟩)
                  obtain ⟨dd, hdd⟩ : ∃ dd, s.data = dd := ⟨_, rfl⟩
                  rw [hdd] at g2 s16 HRS ⊢
                  have HG18 := Lib.hid (fun k hk => hrt.out.lt k hk)
                  clear hrt b2 hbe hdd sby
                  cases hbg : s.beg
                  · rw [hbg] at HRS
                    simp only [Bool.false_eq_true, if_false] at HRS
                    obtain ⟨R, hR⟩ : ∃ R, us.length = R + 1 := ⟨us.length - 1, by omega⟩
                    have hRb : R ≤ 100 := by omega
                    obtain ⟨g, cap, Au, cu, zs, rfl, hgB, hgl, hu, hz, hOu, hcl, hcs⟩ := rt2.open_ hR
                    have hzle : zs.length + dd.length ≤ 10000 := by have := HRLE.out zs (List.mem_of_getElem? hz); omega
                    have HCS := Lib.hid hcs
                    have HLAST := Lib.hid (fun (W3 : World) (u2 : Value) (zs2 : List Int) a1 a2 a3 => rt2.last (W1 := W3) (u2 := u2) (zs2 := zs2) hR rfl hu hz a1 a2 a3)
                    have HROW := Lib.hid (show (rowsAcc [] ss).set R (zs ++ dd) = rowsAcc [] (ss ++ [s]) by
                      rw [HRS.out, show (rowsAcc [] ss).length - 1 = R by omega, hz]; rfl)
                    have HZLE := Lib.hid hzle
                    clear hbg HRS hcs rt2 hlen hRp hRl HRLE hzle
                    go_wp2_with (at_builtin; refine wpList_appendBa rfl _ _ rfl (w.heap.size + 1) (.slice Au zs.length cu) zs rfl hOu A2 dd _ c2 rfl rfl g2 HZLE.out hsw2 ?_; intro v3 w3 own3 gr3 at3; obtain ⟨A3, c3, rfl, _⟩ := own3.good; have k3 := (HCS.out w3 gr3).1; have f3 := (HCS.out w3 gr3).2)
                    go_roundw
                    case rel =>
                      refine ⟨j + 1, _, ss ++ [s], by have := HNN.out; omega, by have := HNN.out; rw [show f + (j + 1) = nn + 1 by omega]; go_num, HS1.out, HMEM.out, by rw [← HROW.out]; exact HLAST.out w3 _ _ gr3 (by have o3 := own3; rwa [List.length_append] at o3) (fun k hk => at3 k (by rw [List.length_append]; exact hk)), ?_⟩
                      exact (hb2.grown gr3 hsw2 (fun k e => (World.ownsRow.lt hOu k e).1)).setCell hgB _
                    case measure => simp [intOf]; omega
                  · rw [hbg] at HRS
                    simp only [if_true] at HRS
                    obtain ⟨R, hR⟩ : ∃ R, us.length = R := ⟨_, rfl⟩
                    have hRb : R ≤ 100 := by omega
                    have hal : Below w2.heap.size w2 ((w2.alloc (.cells #[] 5)).alloc (.cells #[.slice (some ⟨w2.heap.size, 0, none⟩) 0 0] 39)) := ((Below.refl _ _).alloc (Nat.le_refl _) _).alloc (by simp) _
                    have hown0 : Owns (w.heap.size + 1) ((w2.alloc (.cells #[] 5)).alloc (.cells #[.slice (some ⟨w2.heap.size, 0, none⟩) 0 0] 39)) (.slice (some ⟨w2.heap.size, 0, none⟩) 0 0) [] := (owns_lit0 w2 _ hsw2).below ((Below.refl _ _).alloc (Nat.le_refl _) _)
                    have hcell0 : ((w2.alloc (.cells #[] 5)).alloc (.cells #[.slice (some ⟨w2.heap.size, 0, none⟩) 0 0] 39)).cell? ⟨w2.heap.size + 1, 0, none⟩ = some (.slice (some ⟨w2.heap.size, 0, none⟩) 0 0) := by
                      have hh := heap_alloc_new (w2.alloc (.cells #[] 5)) (.cells #[.slice (some ⟨w2.heap.size, 0, none⟩) 0 0] 39)
                      rw [World.size_alloc] at hh
                      exact (cell_of_row _ _ 0 _ 39 (0, 0) hh).trans rfl
                    have HRT2 := Lib.hid rt2
                    have HMORE := Lib.hid (fun (W3 : World) (v3 : Value) a1 a2 => rt2.more (W2 := W3) (v2 := v3) hal hown0 (fun k hk => Nat.le_of_eq (by simpa [Value.ownBlock] using hk)) a1 a2)
                    have hbal := hb2.trans (hal.mono hsw2)
                    have g2a := g2.below hal
                    have HOUT := Lib.hid (rt2.kept hal).out
                    have HROW := Lib.hid (show (rowsAcc [] ss ++ [[]]).set R ([] ++ dd) = rowsAcc [] (ss ++ [s]) by
                      rw [HRS.out, show R = (rowsAcc [] ss).length by omega]; simp)
                    have HZE := Lib.hid (show (rowsAcc [] ss ++ [[]])[R]? = some [] by rw [show R = (rowsAcc [] ss).length by omega]; simp)
                    have hgs : w2.heap.size + 2 = ((w2.alloc (.cells #[] 5)).alloc (.cells #[.slice (some ⟨w2.heap.size, 0, none⟩) 0 0] 39)).heap.size := by simp
                    have HGS := Lib.hid hgs
                    clear hbg HRS rt2 hlen hRp hRl HRLE hal hgs
                    go_wp2_with (first
                      | (at_builtin; refine wpList_appendRow rfl _ _ rfl (w.heap.size + 1) _ us rfl HOUT.out (.slice (some ⟨w2.heap.size, 0, none⟩) 0 0) rfl (w2.heap.size + 1) 1 rfl hcell0 (by omega) (by simp; omega) ?_; intro v3 w3 own3 gr3; obtain ⟨g, cap, Au, cu, zs, rfl, hgB, hgl, hu, hz, hOu, hcl, hcs⟩ := (HMORE.out w3 v3 gr3 own3).open_ (R := R) (by simp [hR]); have hz0 : zs = [] := (Option.some.inj (hz.symm.trans HZE.out)); subst hz0; have HCS := Lib.hid hcs; have g3 : Good A2 c2 dd w3 := good_grown g2a gr3 (fun a ha e => by have q1 := (HG18.out _ e.symm).2; have q2 := fr2 a ha; omega); have hsw3 : w.heap.size + 1 ≤ w3.heap.size := Nat.le_trans (by have := HGS.out; omega) gr3.size; have HLAST := Lib.hid (fun (W3 : World) (u2 : Value) (zs2 : List Int) a1 a2 a3 => (HMORE.out w3 _ gr3 own3).last (W1 := W3) (u2 := u2) (zs2 := zs2) (by simp [hR]) rfl hu hz a1 a2 a3); clear hcs)
                      | (at_builtin; refine wpList_appendBa rfl _ _ rfl (w.heap.size + 1) (.slice Au ([] : List Int).length cu) [] rfl hOu A2 dd _ c2 rfl rfl g3 (by simp; omega) hsw3 ?_; intro v4 w4 own4 gr4 at4; obtain ⟨A4, c4, rfl, _⟩ := own4.good; have k4 := (HCS.out w4 gr4).1; have f4 := (HCS.out w4 gr4).2))
                    go_roundw
                    case rel =>
                      refine ⟨j + 1, _, ss ++ [s], by have := HNN.out; omega, by have := HNN.out; rw [show f + (j + 1) = nn + 1 by omega]; go_num, HS1.out, HMEM.out, by rw [← HROW.out]; exact HLAST.out w4 _ _ gr4 (by have o4 := own4; simpa using o4) (fun k hk => at4 k hk), ?_⟩
                      exact ((hbal.grown gr3 (by have := HGS.out; omega) (fun k e => (HG18.out k e).1)).grown gr4 hsw3 (fun k e => (World.ownsRow.lt hOu k e).1)).setCell hgB _
                    case measure => simp [intOf]; omega
                · rw [show decide (s.n = nn) = false by simpa using hsn] at c3
                  have HE := Lib.hid (HNO.out (by rw [HSN.out, HSE.out, hrs]; simp only; rw [if_neg hsn]))
                  clear cN cY hrs hsn
                  go_wp2_with fail
                  refine c3.mono ?_
                  clear c3
                  rintro e w2 ⟨A2, c2, rfl, g2, b2, _⟩
                  go_wp2
                  go_ret3
                  rw [HE.out]
                  exact ⟨rfl, hB0.trans ((hbe.trans (b2.mono hswr)).mono (by omega))⟩
            · have hlei : ¬ ((nn : Int) ≤ (la : Int)) := by omega
              have hled : decide (nn ≤ la) = false := by simpa using hle
              have HALL := Lib.hid (show secsFrom S f (la - f + 1) = some ss by rw [show la - f + 1 = j by omega]; exact hss)
              have hR0 := hrt.len
              have hRl := rowsAcc_len ss []
              have hus : us.length ≤ 62 := by omega
              have hssl : ss.length ≤ 61 := by omega
              have HLE := Lib.hid (rows_le ss (fun x hx => (hsok x hx).1))
              have HSUM := Lib.hid (show ((rowsAcc [] ss).map List.length).sum ≤ 1000 by rw [rowsAcc_sum]; have := sum_le16 ss (fun x hx => (hsok x hx).1); simp; omega)
              have hRp := rowsAcc_ne ss []
              obtain ⟨g, cap, Au, cu, zu, rfl, hgB, hgl, _⟩ := hrt.open_ (R := us.length - 1) (by omega)
              rw [show us.length - 1 + 1 = us.length by omega] at hrt
              obtain ⟨n, hn⟩ : ∃ n, us.length = n := ⟨_, rfl⟩
              rw [show us.length - 1 + 1 = us.length by omega, hn]
              rw [hn] at hrt hus hR0
              have HNU := Lib.hid hn
              have HR0 := Lib.hid hR0
              have HBY := Lib.hid (show ∀ x ∈ rowsAcc [] ss, isBytes x from rows_bytes ss (fun x hx => (hsok x hx).2))
              have hal : Below wr.heap.size wr (wr.alloc (.cells #[] 63)) := (Below.refl _ _).alloc (Nat.le_refl _) _
              have HR3 := Lib.hid (hrt.kept hal)
              have HO3 := Lib.hid ((ownsR_lit wr).base hswr)
              have HB3 := Lib.hid (hbe.trans (hal.mono hswr))
              have HT3' := Lib.hid (fun h => HT3.out HCD.out ss HALL.out h)
              have HT4' := Lib.hid (fun h => HT4.out HCD.out ss HALL.out h)
              generalize rowsAcc [] ss = rows at *
              clear hnn hss hsok hjl hn hal hrt hbe hRl hRp hR0
              go_wp2
              generalize wr.alloc (.cells #[] 63) = W3 at *
              go_loopw [25, 26] (fun x i wq => ∃ (q : Nat) (acc : List RecD), q ≤ n ∧ i = .int .i64 q ∧ acc = (rows.take q).flatMap recsL ∧ (rows.take q).all rowOK = true ∧ OwnsR (w.heap.size + 1) wq x acc ∧ RowsT (w.heap.size + 1) wq (.slice (some ⟨g, 0, none⟩) n cap) us rows ∧ Below (w.heap.size + 1) W0 wq) (fun _ i _ => n - (intOf i).toNat)
              case atStart => exact ⟨0, [], Nat.zero_le _, rfl, rfl, rfl, HO3.out, HR3.out, HB3.out⟩
              case round =>
                obtain ⟨q, acc, hq, rfl, hacc, hall, hown, hrq, hbq⟩ := hrel
                have hswr : w.heap.size + 1 ≤ wr.heap.size := by have := hbq.size; rw [HSZ.out] at this; exact this
                have HACC := Lib.hid hacc
                have HAL := Lib.hid hall
                clear hacc hall
                by_cases hlt : q < n
                · have hlti : (q : Int) < (n : Int) := by omega
                  have hltd : decide (q < n) = true := by simpa using hlt
                  obtain ⟨A3, c3, zs, hz, hcl, gz⟩ := hrq.at_ HNU.out hlt
                  have hmem := List.mem_of_getElem? hz
                  have hzle : zs.length ≤ 1000 := by have := HLE.out zs hmem; omega
                  obtain ⟨m, hm⟩ : ∃ m, zs.length = m := ⟨_, rfl⟩
                  rw [hm] at hcl hzle
                  have cA := HA A3 m c3 zs hm (by omega) (HBY.out zs hmem) wr gz
                  have hglq := (hrq.out.lt g rfl).2
                  have HTK := Lib.hid (show rows.take (q + 1) = rows.take q ++ [zs] by
                    have hql : q < rows.length := at_lt hz
                    rw [List.take_succ_eq_append_getElem hql]
                    rw [List.getElem?_eq_getElem hql] at hz
                    injection hz with hz
                    rw [hz])
                  have HAB := Lib.hid (show rowOK zs = false → rows.all rowOK = false from fun h => by
                    rw [List.all_eq_false]
                    exact ⟨zs, hmem, by rw [h]; decide⟩)
                  have hac : 3 * acc.length ≤ 1000 := by
                    rw [HACC.out]
                    have h1 := recs_sum (rows.take q)
                    have h2 := sum_take_le rows q
                    have := HSUM.out
                    omega
                  have hrl2 := recs_len zs
                  rw [hm] at hrl2
                  clear hz hmem gz
                  go_wp2_with fail
                  refine cA.mono ?_
                  clear cA
                  rintro e w5 ⟨kq, v5, hst, rfl, own5, b5⟩
                  have hqk := stopK_of hst
                  have eR : recsN zs kq = recsL zs := by unfold recsL; rw [hqk]
                  rw [eR] at own5
                  have hpm := posN_le zs kq
                  have hok : rowOK zs = decide (m ≤ posN zs kq + 23) := by unfold rowOK goneL; rw [hqk, hm]
                  obtain ⟨p, hp⟩ : ∃ p, posN zs kq = p := ⟨_, rfl⟩
                  rw [hp] at hpm hok ⊢
                  rw [hm] at hpm
                  obtain ⟨A6, ca6, rfl, g6⟩ := own5.good
                  have own6 := hown.below b5
                  have hrq5 := hrq.kept b5
                  have hb5 : Below (w.heap.size + 1) W0 w5 := hbq.trans (b5.mono hswr)
                  have hsw5 : w.heap.size + 1 ≤ w5.heap.size := Nat.le_trans hswr b5.size
                  have cl5 := (b5.cell (p := ⟨g, q, none⟩) hglq).trans hcl
                  obtain ⟨l2, hl2⟩ : ∃ l2, (recsL zs).length = l2 := ⟨_, rfl⟩
                  rw [hl2] at hrl2 ⊢
                  have HL2 := Lib.hid hl2
                  have HOK := Lib.hid hok
                  clear hqk eR hok hp hst own5 b5 hown hrq hbq hl2 hcl hm
                  by_cases hbad : p + 23 < m
                  · have hbi : (23 : Int) < (m : Int) - (p : Int) := by omega
                    go_wp2
                    go_ret3
                    unfold ROpenSays
                    rw [HT3'.out (HAB.out (by rw [HOK.out]; simp; omega))]
                    exact ⟨rfl, hB0.trans (hb5.mono (by omega))⟩
                  · have hbi : ¬ ((23 : Int) < (m : Int) - (p : Int)) := by omega
                    go_wp2_with (at_builtin; refine wpList_appendL rfl _ _ rfl (w.heap.size + 1) _ acc rfl own6 _ (recsL zs) l2 _ rfl HL2.out g6 (by rw [HL2.out]; omega) hsw5 ?_; intro v7 w7 own7 gr7 _ _)
                    go_roundw
                    case rel =>
                      refine ⟨q + 1, _, by omega, by go_num, ?_, ?_, own7, hrq5.grown own6 gr7, hb5.grown gr7 hsw5 (fun k e => (World.ownsRow.lt own6 k e).1)⟩
                      · rw [HTK.out, List.flatMap_append, HACC.out]; simp
                      · rw [HTK.out, List.all_append, HAL.out, Bool.true_and, List.all_cons, HOK.out]; simp; omega
                    case measure => simp [intOf]; omega
                · obtain rfl : q = n := by omega
                  have hltd : decide (q < q) = false := by simp
                  have htk : rows.take q = rows := List.take_of_length_le (by have := HR0.out; omega)
                  rw [htk] at HACC HAL
                  have hlq := HL0.out.kept (hbq.block w.heap.size (by omega))
                  have k1 := hlq.c1
                  have k2 := hlq.c2
                  have k3 := hlq.c3
                  have f1 := hlq.fz 1
                  have f2 := hlq.fz 2
                  have f3 := hlq.fz 3
                  have HLQ := Lib.hid hlq
                  simp only at k1 k2 k3
                  clear hlq htk
                  go_wp2
                  go_ret3
                  unfold ROpenSays
                  rw [HT4'.out HAL.out]
                  have s1 := HLQ.out.next_set (la + 1)
                  rw [show ((la + 1 : Nat) : Int) = (la : Int) + 1 by omega] at s1
                  have s3 := (s1.first_set f).sure_set f
                  have hmv : Moves (fun k => k = w.heap.size) wr (((wr.setCell ⟨w.heap.size, 1, none⟩ (.int .i64 ((la : Int) + 1))).setCell ⟨w.heap.size, 2, none⟩ (.int .i64 (f : Int))).setCell ⟨w.heap.size, 3, none⟩ (.int .i64 (f : Int))) :=
                    ((moves_setCell (fun k => k = w.heap.size) wr ⟨w.heap.size, 1, none⟩ _ rfl).trans (moves_setCell (fun k => k = w.heap.size) _ ⟨w.heap.size, 2, none⟩ _ rfl) (fun _ x => .inl x)).trans (moves_setCell (fun k => k = w.heap.size) _ ⟨w.heap.size, 3, none⟩ _ rfl) (fun _ x => .inl x)
                  rw [HACC.out] at hown
                  refine ⟨w.heap.size, _, rfl, s3, Nat.le_refl _, ?_, fun e => ?_, ?_⟩
                  · exact OwnsR.base (row_kept hown (fun k hk => hmv.block k (World.ownsRow.lt hown k hk).2 (fun e => by have := (World.ownsRow.lt hown k hk).1; omega))) (by omega)
                  · have := (World.ownsRow.lt hown _ e).1; omega
                  · exact (hB0.trans (hbq.mono (by omega))).trans (hmv.below (Nat.le_trans (by omega) hswr) (fun k hk => by omega))
end Go.Proofs.YtdmkkfpbgpijjaaGreat

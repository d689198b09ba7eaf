/- wal: rows of sectors and their records (rowLen, rowBytes, recordsOf). wal: a log in memory (LI5); Open. wal: Free, Next, First, Sectors, fitting, Force. slices.Chunk over bytes, sixteen by sixteen: what its iterator hands over. disk.Write once more: what it answers with the disk's blocks told: none but the cache's row is ever another one. wal: writeSector. wal: writeRow: records' bytes, sixteen to a sector. wal: Append, Checkpoint; all that layer 5's calls answer (walOK). The walk of the statement WalLasts, over the bundle of what layer 5's calls answer. The walk of the statement WalTwice, over the bundle of what layer 5's calls answer. SameRecs of any two lists of one length; a log that was checkpointed, and cut by a crash, as plain mathematics. A checkpoint behind what was forced, as plain mathematics: what is told behind a force, and behind any crash; rows beside a disk. The walk of the statement WalChecks, over the bundle of what layer 5's calls answer. -/
import Derived.Test.YtdmkkfpbgpijjaaMac
import Derived.Test.YtdmkkfpbgpijjaaMaa
import Derived.Test.YtdmkkfpbgpijjaaMab
namespace Go.Proofs.Ytdmkkfpbgpijjaa
open Go.RowKit Go.Deep Go.Maps
set_option linter.unusedVariables false

def RowLenSays (cs : List Sec) (w : World) (e : Ending) (w' : World) : Prop := ∃ n, RowN cs n ∧ e = .returned (.int .i64 (n : Nat)) ∧ w = w'
set_option maxRecDepth 100000 in
set_option maxHeartbeats 2000000 in
theorem rowLen_any (g o l c : Nat) (cs : List Sec) (w : World) (G : GoodS g o cs w) (hl : cs.length = l) (h1 : 1 ≤ l) (h2 : l ≤ 512) : Calls Try.prog 42 #[.slice (some ⟨g, o, none⟩) l c] w (RowLenSays cs w) := by
  have HL := Lib.hid hl
  have HG := Lib.hid G
  clear hl G
  go_enter Try.func42, Try.ntmps42
  go_wp2
  go_loop [3] (fun i => ∃ n : Nat, 1 ≤ n ∧ n ≤ l ∧ i = .int .i64 n ∧ (∀ i c, 1 ≤ i → i < n → cs[i]? = some c → c.beg = false)) (fun i => l - (intOf i).toNat)
  case atStart => exact ⟨1, Nat.le_refl _, h1, rfl, fun i c a b => absurd b (by omega)⟩
  case round =>
    obtain ⟨n, hn1, hn2, rfl, hp⟩ := hrel
    have HP := Lib.hid hp
    clear hp
    by_cases hlt : n < l
    · have hlti : (n : Int) < (l : Int) := by omega
      have hltd : decide (n < l) = true := by simpa using hlt
      have hnl : n < cs.length := by rw [HL.out]; exact hlt
      obtain ⟨A, c', hr, _⟩ := HG.out.2 n cs[n] (List.getElem?_eq_getElem hnl)
      have HE := Lib.hid (List.getElem?_eq_getElem hnl)
      generalize cs[n] = s at *
      obtain ⟨_, _, x2, _⟩ := range_four hr rfl
      clear hr hnl
      cases hb : s.beg
      · rw [hb] at x2
        have HB := Lib.hid hb
        clear hb
        go_wp2
        go_round
        case rel =>
          refine ⟨n + 1, by omega, by omega, by go_num, fun i d a b e => ?_⟩
          rcases Nat.lt_or_ge i n with y | y
          · exact HP.out i d a y e
          · obtain rfl : i = n := by omega
            rw [HE.out] at e
            injection e with e
            rw [← e]; exact HB.out
        case measure => simp [intOf]; omega
      · rw [hb] at x2
        have HB := Lib.hid hb
        clear hb
        go_wp2
        go_ret
        exact ⟨n, ⟨hn1, by rw [HL.out]; exact hn2, HP.out, fun d e => by rw [HE.out] at e; injection e with e; rw [← e]; exact HB.out⟩, rfl, rfl⟩
    · obtain rfl : n = l := by omega
      have hltd : decide (n < n) = false := by simp
      go_wp2
      go_ret
      exact ⟨n, ⟨hn1, by rw [HL.out]; exact hn2, HP.out, fun d e => by rw [List.getElem?_eq_none (by rw [HL.out]; exact Nat.le_refl _)] at e; cases e⟩, rfl, rfl⟩
def dataL (cs : List Sec) : List Int := cs.flatMap (·.data)
theorem dataL_snoc (cs : List Sec) (k : Nat) (h : k < cs.length) : dataL (cs.take (k + 1)) = dataL (cs.take k) ++ cs[k].data := by
  unfold dataL
  rw [List.take_succ_eq_append_getElem h, List.flatMap_append]
  simp
theorem dataL_len (cs : List Sec) (hd : ∀ s ∈ cs, s.data.length ≤ 16) : (dataL cs).length ≤ 16 * cs.length := by
  have := rowsP_len cs hd cs.length
  rwa [List.take_length] at this
set_option maxRecDepth 100000 in
set_option maxHeartbeats 2000000 in
theorem rowBytes_any (g o l c : Nat) (cs : List Sec) (w : World) (G : GoodS g o cs w) (hl : cs.length = l) (h2 : l ≤ 512) (hd : ∀ s ∈ cs, s.data.length ≤ 16) : Calls Try.prog 43 #[.slice (some ⟨g, o, none⟩) l c] w (GivesB (dataL cs) w) := by
  have HL := Lib.hid hl
  have HG := Lib.hid G
  have hgl := G.1
  have HD := Lib.hid hd
  clear hl G hd
  go_enter Try.func43, Try.ntmps43
  go_wp2
  go_loopw [3, 8] (fun v i wr => ∃ k : Nat, k ≤ l ∧ i = .int .i64 k ∧ Owns w.heap.size wr v (dataL (cs.take k)) ∧ Below w.heap.size w wr) (fun _ i _ => l - (intOf i).toNat)
  case atStart => exact ⟨0, Nat.zero_le _, rfl, ⟨rfl, .inl ⟨rfl, rfl⟩⟩, Below.refl _ _⟩
  case round =>
    obtain ⟨k, hk, rfl, hown, hbe⟩ := hrel
    by_cases hlt : k < l
    · have hlti : (k : Int) < (l : Int) := by omega
      have hltd : decide (k < l) = true := by simpa using hlt
      have hkl : k < cs.length := by rw [HL.out]; exact hlt
      obtain ⟨A, c', hr, hgd⟩ := HG.out.2 k cs[k] (List.getElem?_eq_getElem hkl)
      have HSN := Lib.hid (dataL_snoc cs k hkl)
      have hlen : (dataL (cs.take k)).length + cs[k].data.length ≤ 10000 := by
        have h1 := dataL_len (cs.take k) (fun s hs => HD.out s (List.mem_of_mem_take hs))
        have h3 := HD.out cs[k] (List.getElem_mem _)
        rw [List.length_take, HL.out] at h1
        omega
      have HLEN := Lib.hid hlen
      generalize cs[k] = s at *
      obtain ⟨x0, x1, x2, x3⟩ := range_four (rangeAt_of_block' (hbe.block g hgl) hr) rfl
      clear hr hkl hlen
      go_wp2_with (at_builtin; refine wpList_appendB rfl _ _ rfl w.heap.size _ (dataL (cs.take k)) rfl (hown.below ((Below.refl _ _).alloc (Nat.le_refl _) _)) _ s.data _ _ rfl rfl ((hgd.below hbe).alloc _) HLEN.out (by have := hbe.size; simp; omega) w (below_more hbe ((Below.refl _ _).alloc (Nat.le_refl _) _) (Nat.le_refl _)) ?_; intro v2 w2 own2 be2)
      go_roundw
      case rel => exact ⟨k + 1, by omega, by go_num, by rw [HSN.out]; exact own2, be2⟩
      case measure => simp [intOf]; omega
    · obtain rfl : k = l := by omega
      have hltd : decide (k < k) = false := by simp
      rw [List.take_of_length_le (by rw [HL.out]; exact Nat.le_refl _)] at hown
      go_wp2
      go_ret
      exact ⟨_, rfl, hown, hbe⟩

def RecordsSays (cs : List Sec) (w : World) (e : Ending) (w' : World) : Prop :=
  Below w.heap.size w w' ∧ ((∃ v rs, tellP cs = some rs ∧ e = .returned (.tuple #[v, .bool true]) ∧ OwnsR w.heap.size w' v rs) ∨ (tellP cs = none ∧ e = .returned (.tuple #[.slice none 0 0, .bool false])))
def lenS : Value → Nat
  | .slice _ r _ => r
  | _ => 0
/-- Rows that are done, so far. -/
structure DoneR (cs : List Sec) (k : Nat) (acc : List RecD) : Prop where
  ex : ∃ done, rowsP cs = done ++ rowsP (cs.drop k) ∧ done.all rowOK = true ∧ acc = done.flatMap recsL
  len : 3 * acc.length ≤ 16 * k
theorem DoneR.start (cs : List Sec) : DoneR cs 0 [] := ⟨⟨[], rfl, rfl, rfl⟩, by simp⟩
theorem recs_len (b : List Int) : 3 * (recsL b).length ≤ b.length := by
  unfold recsL
  rw [recsN_length]
  have h1 := posN_ge (stops_stopK b).1
  have h2 := posN_le b (stopK b)
  omega
theorem DoneR.step {cs : List Sec} {k n : Nat} {acc : List RecD} (h : DoneR cs k acc) (hr : RowN (cs.drop k) n) (hd : ∀ s ∈ cs, s.data.length ≤ 16) (hok : rowOK (dataL ((cs.drop k).take n)) = true) : DoneR cs (k + n) (acc ++ recsL (dataL ((cs.drop k).take n))) := by
  obtain ⟨done, h1, h2, h3⟩ := h.ex
  refine ⟨⟨done ++ [dataL ((cs.drop k).take n)], ?_, ?_, ?_⟩, ?_⟩
  · rw [h1, rowsP_row _ n hr, List.drop_drop, List.append_assoc]; rfl
  · rw [List.all_append, h2, Bool.true_and, List.all_cons, hok]; rfl
  · rw [List.flatMap_append, h3]; simp
  · have e1 := recs_len (dataL ((cs.drop k).take n))
    have e2 := dataL_len ((cs.drop k).take n) (fun s hs => hd s (List.mem_of_mem_drop (List.mem_of_mem_take hs)))
    rw [List.length_take] at e2
    have e3 := h.len
    rw [List.length_append]
    omega
theorem DoneR.fail {cs : List Sec} {k n : Nat} {acc : List RecD} (h : DoneR cs k acc) (hr : RowN (cs.drop k) n) (hok : rowOK (dataL ((cs.drop k).take n)) = false) : tellP cs = none := by
  obtain ⟨done, h1, h2, h3⟩ := h.ex
  unfold tellP
  rw [h1, rowsP_row _ n hr]
  have : (done ++ (List.flatMap (fun x => x.data) (List.take n (List.drop k cs)) :: rowsP (List.drop n (List.drop k cs)))).all rowOK = false := by
    rw [List.all_append, h2, Bool.true_and, List.all_cons]
    show (rowOK (dataL ((cs.drop k).take n)) && _) = false
    rw [hok]; rfl
  rw [this]; rfl
theorem DoneR.end_ {cs : List Sec} {k : Nat} {acc : List RecD} (h : DoneR cs k acc) (hk : cs.length ≤ k) : tellP cs = some acc := by
  obtain ⟨done, h1, h2, h3⟩ := h.ex
  rw [List.drop_eq_nil_of_le hk] at h1
  have e : rowsP cs = done := by rw [h1]; simp [rowsP]
  unfold tellP
  rw [e, h2, h3]; rfl
theorem bytes_data (cs : List Sec) (h : ∀ s ∈ cs, isBytes s.data) : isBytes (dataL cs) := by
  intro z hz
  unfold dataL at hz
  obtain ⟨s, hs, hz⟩ := List.mem_flatMap.1 hz
  exact h s hs z hz
set_option maxRecDepth 100000 in
set_option maxHeartbeats 2000000 in
theorem recordsOf_any (g l c : Nat) (cs : List Sec) (w : World) (G : GoodS g 0 cs w) (hl : cs.length = l) (h2 : l ≤ 512) (hlc : l ≤ c) (hd : ∀ s ∈ cs, s.data.length ≤ 16) (hby : ∀ s ∈ cs, isBytes s.data) : Calls Try.prog 32 #[.slice (some ⟨g, 0, none⟩) l c] w (RecordsSays cs w) := by
  have HL := Lib.hid hl
  have HG := Lib.hid G
  have HD := Lib.hid hd
  have HY := Lib.hid hby
  clear hl G hd hby
  go_enter Try.func32, Try.ntmps32
  go_wp2
  go_loopw [0, 4] (fun x v wr => ∃ (k r cc : Nat) (A : Option Addr) (acc : List RecD), k + r = l ∧ r ≤ cc ∧ x = .slice A r cc ∧ (0 < r → A = some ⟨g, k * 4, none⟩) ∧ DoneR cs k acc ∧ OwnsR w.heap.size wr v acc ∧ Below w.heap.size w wr) (fun x _ _ => lenS x)
  case atStart => exact ⟨0, l, c, some ⟨g, 0, none⟩, [], by omega, hlc, rfl, fun _ => rfl, DoneR.start cs, ownsR_nil _ _, Below.refl _ _⟩
  case round =>
    obtain ⟨k, r, cc, A, acc, hkr, hrc, rfl, hA, hdone, hown, hbe⟩ := hrel
    by_cases h0 : 0 < r
    · obtain rfl := hA h0
      have h0i : (0 : Int) < (r : Int) := by omega
      have h0d : decide (0 < r) = true := by simpa using h0
      have Gk := HG.out.drop k
      rw [Nat.zero_add] at Gk
      have hlen : (cs.drop k).length = r := by rw [List.length_drop, HL.out]; omega
      have c1 := fun W (hW : Below w.heap.size w W) => rowLen_any g (k * 4) r cc (cs.drop k) W (Gk.below hW) hlen (by omega) (by omega)
      clear hA
      go_wp2_with fail
      refine (c1 _ hbe).mono ?_
      rintro e w1 ⟨n, hrow, rfl, rfl⟩
      have hn1 := hrow.one
      have hn2 : n ≤ r := by have := hrow.le; rw [hlen] at this; exact this
      have hnc : (n : Int) ≤ (cc : Int) := by omega
      have c2 := rowBytes_any g (k * 4) n cc ((cs.drop k).take n) wr ((Gk.below hbe).take n) (by rw [List.length_take, hlen]; omega) (by omega) (fun s hs => HD.out s (List.mem_of_mem_drop (List.mem_of_mem_take hs)))
      have HB := Lib.hid (bytes_data ((cs.drop k).take n) (fun s hs => HY.out s (List.mem_of_mem_drop (List.mem_of_mem_take hs))))
      have hzl : (dataL ((cs.drop k).take n)).length ≤ 16 * n := by
        have := dataL_len ((cs.drop k).take n) (fun s hs => HD.out s (List.mem_of_mem_drop (List.mem_of_mem_take hs)))
        rw [List.length_take] at this
        omega
      have HST := Lib.hid (fun h => hdone.step hrow HD.out h)
      have HFA := Lib.hid (fun h => hdone.fail hrow h)
      have hal := hdone.len
      have HRL := Lib.hid (recs_len (dataL ((cs.drop k).take n)))
      generalize dataL ((cs.drop k).take n) = zs at *
      clear c1 Gk hlen hrow hdone
      go_wp2_with fail
      refine c2.mono ?_
      clear c2
      rintro e w1 ⟨v1, rfl, o1, b1⟩
      obtain ⟨A1, ca, rfl, g1⟩ := o1.good
      obtain ⟨m, hm⟩ : ∃ m, zs.length = m := ⟨_, rfl⟩
      rw [hm]
      have c3 := all_any A1 m ca zs hm (by omega) HB.out w1 g1
      go_wp2_with fail
      refine c3.mono ?_
      rintro e w2 ⟨q, v2, hst, rfl, o2, b2⟩
      have hq := stopK_of hst
      have eR : recsN zs q = recsL zs := by unfold recsL; rw [hq]
      rw [eR] at o2
      have hpm := posN_le zs q
      have hok : rowOK zs = decide (zs.length ≤ posN zs q + 23) := by unfold rowOK goneL; rw [hq]
      obtain ⟨p, hp⟩ : ∃ p, posN zs q = p := ⟨_, rfl⟩
      rw [hp] at hpm hok ⊢
      rw [hm] at hpm hok hzl HRL
      obtain ⟨A2, ca2, rfl, g2⟩ := o2.good
      have hb2 := below_more (below_more hbe b1 (Nat.le_refl _)) b2 (Nat.le_refl _)
      have own2 := (hown.below b1).below b2
      obtain ⟨l2, hl2⟩ : ∃ l2, (recsL zs).length = l2 := ⟨_, rfl⟩
      rw [hl2] at HRL ⊢
      have HL2 := Lib.hid hl2
      have HOK := Lib.hid hok
      have hrl2 := HRL.out
      have hmb : m ≤ 8192 := by omega
      have hmn : m ≤ 16 * n := by omega
      have hpb : p ≤ 8192 := by omega
      clear hq eR hok hp hm hl2 c3 hst o1 o2 b1 b2 hown hbe g1 hzl HRL
      have hpi : (0 : Int) ≤ (m : Int) - p := by omega
      by_cases hbad : p + 23 < m
      · have hbi : (23 : Int) < (m : Int) - (p : Int) := by omega
        go_wp2
        go_ret2
        exact ⟨hb2, .inr ⟨HFA.out (by rw [HOK.out]; simp; omega), rfl⟩⟩
      · have hbi : ¬ ((23 : Int) < (m : Int) - (p : Int)) := by omega
        have HST2 := Lib.hid (HST.out (by rw [HOK.out]; simp; omega))
        have hsum : acc.length + l2 ≤ 5000 := by omega
        have hni : (n : Int) ≤ (r : Int) := by omega
        by_cases hcc : cc = n
        · have hrn : r = n := by omega
          subst hcc
          go_wp2_with (at_builtin; refine wpList_appendL rfl _ _ rfl w.heap.size _ acc rfl own2 _ (recsL zs) l2 _ rfl HL2.out g2 (by rw [HL2.out]; exact hsum) hb2.size ?_; intro v3 w3 own3 gr3 _ _)
          go_roundw
          case rel => exact ⟨k + cc, 0, 0, _, _, by omega, by omega, rfl, fun h => absurd h (by omega), HST2.out, own3, hb2.grown gr3 hb2.size (fun k e => (World.ownsRow.lt own2 k e).1)⟩
          case measure => simp [lenS]; omega
        · go_wp2_with (at_builtin; refine wpList_appendL rfl _ _ rfl w.heap.size _ acc rfl own2 _ (recsL zs) l2 _ rfl HL2.out g2 (by rw [HL2.out]; exact hsum) hb2.size ?_; intro v3 w3 own3 gr3 _ _)
          go_roundw
          case rel => exact ⟨k + n, r - n, cc - n, _, _, by omega, by omega, rfl, fun h => by rw [Nat.add_mul], HST2.out, own3, hb2.grown gr3 hb2.size (fun k e => (World.ownsRow.lt own2 k e).1)⟩
          case measure => simp [lenS]; omega
    · have hr0 : r = 0 := by omega
      subst hr0
      have h0d : decide (0 < 0) = false := by simp
      have HDN := Lib.hid hdone
      clear hdone hA
      go_wp2
      go_ret2
      exact ⟨hbe, .inl ⟨_, _, HDN.out.end_ (by rw [HL.out]; omega), rfl, hown⟩⟩
end Go.Proofs.Ytdmkkfpbgpijjaa
namespace Go.Proofs.Ytdmkkfpbgpijjaa
open Go.RowKit Go.Deep Go.Maps
set_option linter.unusedVariables false

/-- Where a log lies: four cells in a block of its own. -/
structure LI5 (w : World) (F : Nat → Prop) (lb db : Nat) (lg : LogD) : Prop where
  lt : lb < w.heap.size
  here : F lb
  only : ∀ k, F k → k = lb
  c0 : w.cell? ⟨lb, 0, none⟩ = some (.pointer (some ⟨db, 0, none⟩))
  c1 : w.cell? ⟨lb, 1, none⟩ = some (.int .i64 lg.next)
  c2 : w.cell? ⟨lb, 2, none⟩ = some (.int .i64 lg.first)
  c3 : w.cell? ⟨lb, 3, none⟩ = some (.int .i64 lg.sure)
  f1 : w.frozen? ⟨lb, 1, none⟩ = false
  f2 : w.frozen? ⟨lb, 2, none⟩ = false
  f3 : w.frozen? ⟨lb, 3, none⟩ = false
  sf : lg.sure ≤ lg.first
theorem LI5.block {w w' : World} {F : Nat → Prop} {lb db : Nat} {lg : LogD} (h : LI5 w F lb db lg) (hb : w'.heap[lb]? = w.heap[lb]?) (hs : w.heap.size ≤ w'.heap.size) : LI5 w' F lb db lg :=
  ⟨Nat.lt_of_lt_of_le h.lt hs, h.here, h.only, (World.cell?_of_block (a := ⟨lb, 0, none⟩) hb).trans h.c0, (World.cell?_of_block (a := ⟨lb, 1, none⟩) hb).trans h.c1, (World.cell?_of_block (a := ⟨lb, 2, none⟩) hb).trans h.c2, (World.cell?_of_block (a := ⟨lb, 3, none⟩) hb).trans h.c3,
    (World.frozen?_of_block (a := ⟨lb, 1, none⟩) hb).trans h.f1, (World.frozen?_of_block (a := ⟨lb, 2, none⟩) hb).trans h.f2, (World.frozen?_of_block (a := ⟨lb, 3, none⟩) hb).trans h.f3, h.sf⟩
theorem LI5.lts {w : World} {F : Nat → Prop} {lb db : Nat} {lg : LogD} (h : LI5 w F lb db lg) : ∀ k, F k → k < w.heap.size := fun k hk => by rw [h.only k hk]; exact h.lt
theorem LI5.kept {w w' : World} {F G : Nat → Prop} {lb db : Nat} {lg : LogD} (h : LI5 w F lb db lg) (hm : Moves G w w') (hd : ∀ k, F k → ¬ G k) : LI5 w' F lb db lg := h.block (hm.block lb h.lt (hd lb h.here)) hm.size
theorem li5_new (W : World) (db next first sure : Nat) (hsf : sure ≤ first) : LI5 (W.alloc (.cells #[.pointer (some ⟨db, 0, none⟩), .int .i64 next, .int .i64 first, .int .i64 sure] 57)) (· = W.heap.size) W.heap.size db ⟨next, first, sure⟩ := by
  have hc : ∀ j, (W.alloc (.cells #[.pointer (some ⟨db, 0, none⟩), .int .i64 next, .int .i64 first, .int .i64 sure] 57)).cell? ⟨W.heap.size, j, none⟩ = _ := fun j => cell_of_row _ _ j _ 57 (0, 0) (heap_alloc_new W _)
  have hf : ∀ j, (W.alloc (.cells #[.pointer (some ⟨db, 0, none⟩), .int .i64 next, .int .i64 first, .int .i64 sure] 57)).frozen? ⟨W.heap.size, j, none⟩ = false := fun j => by
    have hb := heap_alloc_new W (.cells #[.pointer (some ⟨db, 0, none⟩), .int .i64 next, .int .i64 first, .int .i64 sure] 57)
    generalize W.alloc (.cells #[.pointer (some ⟨db, 0, none⟩), .int .i64 next, .int .i64 first, .int .i64 sure] 57) = V at *
    simp [World.frozen?, hb]
  exact ⟨by simp, rfl, fun k hk => hk, (hc 0).trans rfl, (hc 1).trans rfl, (hc 2).trans rfl, (hc 3).trans rfl, hf 1, hf 2, hf 3, hsf⟩
theorem lastL_ok (ss : List Sec) (h : ∀ s ∈ ss, okS s) : okS (lastL ss) := by
  rcases lastL_from ss with e | e
  · rw [e]; exact zS_ok
  · exact h _ e

def WalOpenSays (ss : List Sec) (db : Nat) (w : World) (e : Ending) (w' : World) : Prop :=
  match openP ss with
  | some (lg, rs) => OpenYes LI5 db lg rs w e w'
  | none => e = .returned (.tuple #[.pointer none, .slice none 0 0, .int .i64 21]) ∧ Below w.heap.size w w'
set_option maxRecDepth 100000 in
set_option maxHeartbeats 2000000 in
theorem open_any (FD : Nat → Prop) (db N : Nat) (st : St) (ss : List Sec) (w : World) (h : DiskAt w FD db N st) (hb : BytesD st) (hss : thereL (nows st) = ss) : Calls Try.prog 13 #[.pointer (some ⟨db, 0, none⟩)] w (WalOpenSays ss db w) := by
  obtain ⟨hN1, hN2⟩ := h.n2
  have c1 := sectorsOf_any FD db N st _ w h hb rfl
  have hlen : ss.length = N := by rw [← hss, thereL_len, h.wf.nows_len]
  have hok : ∀ s ∈ ss, okS s := fun s hs => by
    rw [← hss] at hs
    unfold thereL at hs
    obtain ⟨i, hi, rfl⟩ := List.mem_map.1 hs
    rw [List.mem_range, h.wf.nows_len] at hi
    exact there_len _ i (h.wf.now_len hi) (now_bytes hb h.wf i hi)
  unfold SectorsSays at c1
  rw [hss] at c1
  have HOK := Lib.hid hok
  have HLEN := Lib.hid hlen
  clear hok hlen hss h hb
  go_enter Try.func13, Try.ntmps13
  go_wp2_with fail
  refine c1.mono ?_
  clear c1
  rintro e W1 ⟨b, rfl, hbu, b1⟩
  have c2 := lastOf_any b N ss W1 hbu.good HLEN.out hN2
  unfold LastSays at c2
  have HTO := Lib.hid (lastL_ok ss HOK.out)
  obtain ⟨t, ht⟩ : ∃ t, lastL ss = t := ⟨_, rfl⟩
  rw [ht] at c2 HTO
  obtain ⟨lt, hlt⟩ : ∃ lt, t.data.length = lt := ⟨_, rfl⟩
  rw [hlt] at c2
  have HP0 := Lib.hid (show t.n = 0 → openP ss = some (⟨1, 1, 1⟩, []) from fun h => by unfold openP; rw [ht, if_pos h])
  have HP1 := Lib.hid (show t.n ≠ 0 → (t.first < 1 ∨ t.n < t.first) → openP ss = none from fun h h1 => by unfold openP; rw [ht, if_neg h, if_pos h1])
  have HP2 := Lib.hid (show t.n ≠ 0 → ¬ (t.first < 1 ∨ t.n < t.first) → cntF ss t.first (t.n - t.first + 1) = none → openP ss = none from fun h h1 h2 => by unfold openP; rw [ht, if_neg h, if_neg h1, h2])
  have HP3 := Lib.hid (show t.n ≠ 0 → ¬ (t.first < 1 ∨ t.n < t.first) → ∀ cs, cntF ss t.first (t.n - t.first + 1) = some cs → tellP cs = none → openP ss = none from fun h h1 cs h2 h3 => by unfold openP; rw [ht, if_neg h, if_neg h1, h2]; simp only [h3])
  have HP4 := Lib.hid (show t.n ≠ 0 → ¬ (t.first < 1 ∨ t.n < t.first) → ∀ cs rs, cntF ss t.first (t.n - t.first + 1) = some cs → tellP cs = some rs → openP ss = some (⟨t.n + 1, t.first, t.first⟩, rs) from fun h h1 cs rs h2 h3 => by unfold openP; rw [ht, if_neg h, if_neg h1, h2]; simp only [h3])
  have htn := HTO.out.n
  have htf := HTO.out.first
  clear ht hlt
  go_wp2_with fail
  refine c2.mono ?_
  clear c2
  rintro e W2 ⟨At, ct, rfl, b2⟩
  have hBe := below_more b1 b2 (Nat.le_refl _)
  have hGS := hbu.good.below b2
  clear hbu b1 b2
  by_cases h0 : t.n = 0
  · have h0b : ((t.n : Int) == 0) = true := by simp [h0]
    have H0 := Lib.hid h0
    clear h0
    go_wp2
    go_ret3
    unfold WalOpenSays
    rw [HP0.out H0.out]
    have hli := li5_new (W2.alloc (.cells #[.int .i64 t.n, .int .i64 t.first, .bool t.beg, .slice At lt ct] 72)) db 1 1 1 (Nat.le_refl _)
    rw [World.size_alloc] at hli
    refine ⟨_, _, (· = W2.heap.size + 1), rfl, hli, fun k hk => by have := hBe.size; omega, ownsR_nil _ _, (fun k hk => by cases hk), ?_⟩
    exact (hBe.alloc hBe.size _).alloc (by have := hBe.size; simp; omega) _
  · have h0b : ((t.n : Int) == 0) = false := by simp; exact h0
    have H0 := Lib.hid h0
    clear h0
    have hbx : ∀ j v, (#[Value.int .i64 (t.n : Int), Value.int .i64 (t.first : Int), Value.bool t.beg, Value.slice At lt ct])[j]? = some v → (W2.alloc (.cells #[.int .i64 t.n, .int .i64 t.first, .bool t.beg, .slice At lt ct] 72)).cell? ⟨W2.heap.size, j, none⟩ = some v := fun j v hv => by
      rw [cell_of_row _ _ j _ 72 (0, 0) (heap_alloc_new W2 _)]; exact hv
    have y0 := hbx 0 _ rfl
    have y1 := hbx 1 _ rfl
    have y2 := hbx 2 _ rfl
    have y3 := hbx 3 _ rfl
    clear hbx
    have hsz : (W2.alloc (.cells #[.int .i64 t.n, .int .i64 t.first, .bool t.beg, .slice At lt ct] 72)).heap.size = W2.heap.size + 1 := World.size_alloc _ _
    have hGS1 := hGS.below ((Below.refl _ _).alloc (Nat.le_refl _) (.cells #[.int .i64 t.n, .int .i64 t.first, .bool t.beg, .slice At lt ct] 72))
    have hBe1 := hBe.alloc hBe.size (.cells #[.int .i64 t.n, .int .i64 t.first, .bool t.beg, .slice At lt ct] 72)
    clear hGS hBe
    by_cases h1 : t.first < 1 ∨ t.n < t.first
    · have c3 := fun W => count_out b N t.n t.first lt ct t.beg At W (by omega) (by omega) h1
      have H1 := Lib.hid h1
      clear h1 hsz
      go_wp2_with fail
      refine (c3 _).mono ?_
      rintro e W3 ⟨rfl, b3⟩
      go_wp2
      go_ret3
      unfold WalOpenSays
      rw [HP1.out H0.out H1.out]
      exact ⟨rfl, below_more hBe1 b3 (Nat.le_refl _)⟩
    · have c3 := fun W hW => count_any b N ss t.n t.first lt ct (t.n - t.first + 1) t.beg At W hW HLEN.out hN1 hN2 (by omega) (by omega) htn rfl
      have H1 := Lib.hid h1
      have hf1 : 1 ≤ t.first := by omega
      have HSZ := Lib.hid hsz
      clear h1 hsz
      go_wp2_with fail
      refine (c3 _ hGS1).mono ?_
      clear c3
      rintro e W3 ⟨b3, ⟨v3, xs, hc, rfl, own3, hg3⟩ | ⟨hc, rfl⟩⟩
      · have hxl := cntF_len ss t.first _ _ hc
        rw [List.length_map] at hxl
        have hx5 := cntF_le ss t.first _ _ (by rw [HLEN.out]; omega) hf1 hc
        rw [HLEN.out] at hx5
        have hmem := cntF_mem ss t.first hf1 _ _ hc
        obtain ⟨g, cg, rfl, hcg, G3⟩ := own3.good hg3 (by omega)
        have c4 := recordsOf_any g xs.length cg (xs.map (·.s)) W3 G3 (by simp) (by omega) hcg (fun s hs => (HOK.out s (hmem s hs)).len) (fun s hs => (HOK.out s (hmem s hs)).bytes)
        have HC := Lib.hid hc
        have z0 := (b3.cell (p := ⟨W2.heap.size, 0, none⟩) (by show W2.heap.size < _; rw [HSZ.out]; omega)).trans y0
        have z1 := (b3.cell (p := ⟨W2.heap.size, 1, none⟩) (by show W2.heap.size < _; rw [HSZ.out]; omega)).trans y1
        have hlt3 : W2.heap.size < W3.heap.size := by have := b3.size; rw [HSZ.out] at this; omega
        have hBe3 := below_more hBe1 b3 (Nat.le_refl _)
        clear hc hxl hx5 hmem own3 hg3 G3 y0 y1 y2 y3 b3 hBe1 hGS1
        go_wp2_with fail
        refine c4.mono ?_
        clear c4
        rintro e W4 ⟨b4, ⟨v4, rs, htl, rfl, own4⟩ | ⟨htl, rfl⟩⟩
        · have x0 := (b4.cell (p := ⟨W2.heap.size, 0, none⟩) hlt3).trans z0
          have x1 := (b4.cell (p := ⟨W2.heap.size, 1, none⟩) hlt3).trans z1
          have hBe4 := below_more hBe3 b4 (Nat.le_refl _)
          have o4 := own4.base hBe3.size
          have HTL := Lib.hid htl
          clear z0 z1 b4 own4 htl
          go_wp2
          go_ret3
          unfold WalOpenSays
          rw [HP4.out H0.out H1.out _ _ HC.out HTL.out]
          have hli := li5_new W4 db (t.n + 1) t.first t.first (Nat.le_refl _)
          refine ⟨_, _, (· = W4.heap.size), rfl, hli, fun k hk => by have := hBe4.size; omega, o4.below ((Below.refl _ _).alloc (Nat.le_refl _) _), fun k hk e => by have := (World.ownsRow.lt o4 k hk).2; omega, ?_⟩
          exact hBe4.alloc hBe4.size _
        · have HTL := Lib.hid htl
          clear htl
          go_wp2
          go_ret3
          unfold WalOpenSays
          rw [HP3.out H0.out H1.out _ HC.out HTL.out]
          exact ⟨rfl, below_more hBe3 b4 (Nat.le_refl _)⟩
      · have HC := Lib.hid hc
        clear hc
        go_wp2
        go_ret3
        unfold WalOpenSays
        rw [HP2.out H0.out H1.out HC.out]
        exact ⟨rfl, below_more hBe1 b3 (Nat.le_refl _)⟩
theorem open_yes5 (FD : Nat → Prop) (db N : Nat) (st : St) (lg : LogD) (rs : List RecD) (w : World) (h : DiskAt w FD db N st) (hb : BytesD st) (ht : tells (nows st) = some (lg, rs)) : Calls Try.prog 13 #[.pointer (some ⟨db, 0, none⟩)] w (OpenYes LI5 db lg rs w) := by
  rw [tells_openP _ (by rw [h.wf.nows_len]; exact h.n2.1)] at ht
  refine (open_any FD db N st _ w h hb rfl).mono ?_
  intro e w' hs
  unfold WalOpenSays at hs
  rw [ht] at hs
  exact hs
theorem open_no5 (FD : Nat → Prop) (db N : Nat) (st : St) (w : World) (h : DiskAt w FD db N st) (hb : BytesD st) (ht : tells (nows st) = none) : Calls Try.prog 13 #[.pointer (some ⟨db, 0, none⟩)] w fun e w' => e = .returned (.tuple #[.pointer none, .slice none 0 0, .int .i64 21]) ∧ Below w.heap.size w w' := by
  rw [tells_openP _ (by rw [h.wf.nows_len]; exact h.n2.1)] at ht
  refine (open_any FD db N st _ w h hb rfl).mono ?_
  intro e w' hs
  unfold WalOpenSays at hs
  rw [ht] at hs
  exact hs
end Go.Proofs.Ytdmkkfpbgpijjaa
namespace Go.Proofs.Ytdmkkfpbgpijjaa
open Go.RowKit Go.Deep Go.Maps
set_option linter.unusedVariables false

theorem LogOK.small {N : Nat} {lg : LogD} (h : LogOK N lg) : lg.next ≤ 4294967296 ∧ lg.sure ≤ 4294967296 ∧ lg.first ≤ 4294967296 := ⟨h.next, Nat.le_trans h.sure h.next, Nat.le_trans h.first h.next⟩
set_option maxRecDepth 100000 in
set_option maxHeartbeats 1000000 in
theorem free5 (FL FD : Nat → Prop) (lb db N : Nat) (st : St) (lg : LogD) (w : World) (h : LogSt LI5 w FL FD lb db N st lg) : Calls Try.prog 17 #[.pointer (some ⟨lb, 0, none⟩)] w fun e w' => e = .returned (.int .i64 ((N : Int) - lg.next + lg.sure)) ∧ Below w.heap.size w w' := by
  have c0 := h.log.c0
  have c1 := h.log.c1
  have c3 := h.log.c3
  obtain ⟨hn1, hn2⟩ := h.disk.n2
  obtain ⟨s1, s2, s3⟩ := h.ok.small
  obtain ⟨next, first, sure⟩ := lg
  simp only at *
  have cS := fun W (hW : Below w.heap.size w W) => sectors_at FD db N st W (h.disk.below hW)
  have e1 : IntKind.i64.wrap ((N : Int) - (next : Int)) = (N : Int) - next := IntWalk.i64_in _ (by omega)
  have e2 : IntKind.i64.wrap ((N : Int) - (next : Int) + (sure : Int)) = (N : Int) - next + sure := IntWalk.i64_in _ (by omega)
  clear h
  go_enter Try.func17, Try.ntmps17
  go_wp2_with fail
  go_quiet ((go_at_call 36; exact Calls.quiet_of_same ((cS _ (below_drewN (Below.refl _ _) _)).mono (fun e w' h => ⟨h.1, h.2.symm⟩))))
  go_wp2
  go_ret
  exact ⟨rfl, below_drewN (Below.refl _ _) _⟩
theorem LogSt.below5 {w w' : World} {FL FD : Nat → Prop} {lb db N : Nat} {st : St} {lg : LogD} (h : LogSt LI5 w FL FD lb db N st lg) (hb : Below w.heap.size w w') : LogSt LI5 w' FL FD lb db N st lg :=
  ⟨h.log.kept (moves_of_below (F := fun _ => False) hb) (fun _ _ e => e), h.disk.below hb, h.apart, h.ok, h.bytes⟩
set_option maxRecDepth 100000 in
set_option maxHeartbeats 1000000 in
theorem next5 (FL FD : Nat → Prop) (lb db N : Nat) (st : St) (lg : LogD) (w : World) (h : LogSt LI5 w FL FD lb db N st lg) : Calls Try.prog 20 #[.pointer (some ⟨lb, 0, none⟩)] w fun e w' => e = .returned (.int .i64 (lg.next : Int)) ∧ Below w.heap.size w w' := by
  have c1 := h.log.c1
  clear h
  go_enter Try.func20, Try.ntmps20
  go_wp2
  go_ret
  exact ⟨rfl, Below.refl _ _⟩
set_option maxRecDepth 100000 in
set_option maxHeartbeats 1000000 in
theorem first5 (FL FD : Nat → Prop) (lb db N : Nat) (st : St) (lg : LogD) (w : World) (h : LogSt LI5 w FL FD lb db N st lg) : Calls Try.prog 22 #[.pointer (some ⟨lb, 0, none⟩)] w fun e w' => e = .returned (.int .i64 (lg.first : Int)) ∧ Below w.heap.size w w' := by
  have c1 := h.log.c2
  clear h
  go_enter Try.func22, Try.ntmps22
  go_wp2
  go_ret
  exact ⟨rfl, Below.refl _ _⟩
set_option maxRecDepth 100000 in
set_option maxHeartbeats 1000000 in
theorem sectors5 (A : Option Addr) (l c : Nat) (rs : List RecD) (w : World) (hl : rs.length = l) (hl2 : l ≤ 200) (ok : ∀ r ∈ rs, okR r) (g : GoodR A c rs w) : Calls Try.prog 16 #[.slice A l c] w fun e w' => e = .returned (.int .i64 (if rs.all rightB then (nOf rs : Int) else -1)) ∧ Below w.heap.size w w' := by
  have c1 := join_any A l c rs hl hl2 ok w g
  have hjl := joinL_le rs
  rw [hl] at hjl
  have HQ := Lib.hid (show ((joinL rs).length + 15) / 16 = nOf rs from rfl)
  obtain ⟨q, hq⟩ : ∃ q : Int, q = if rs.all rightB then (nOf rs : Int) else -1 := ⟨_, rfl⟩
  rw [← hq]
  have HH := Lib.hid hq
  clear hq hl ok g
  go_enter Try.func16, Try.ntmps16
  go_wp2_with fail
  refine c1.mono ?_
  clear c1
  rintro e W1 (⟨hr, v, rfl, own, b1⟩ | ⟨hr, rfl, b1⟩)
  · obtain ⟨A1, c1, rfl, g1⟩ := own.good
    have HR := Lib.hid hr
    obtain ⟨m, hm⟩ : ∃ m, (joinL rs).length = m := ⟨_, rfl⟩
    rw [hm] at HQ hjl ⊢
    have c2 := fun W => sectorsFor_any A1 m c1 (nOf rs) (by omega) HQ.out W
    clear hr hm own
    go_wp2_with (go_at_call 35; refine (c2 _).mono ?_; rintro e w' ⟨rfl, rfl⟩)
    go_ret
    exact ⟨by rw [HH.out, HR.out]; rfl, b1⟩
  · have HR := Lib.hid hr
    clear hr
    go_wp2
    go_ret
    exact ⟨by rw [HH.out, HR.out]; rfl, b1⟩
/-- What fitting answers. -/
def FitSays (rs : List RecD) (q : Int) (w : World) (e : Ending) (w' : World) : Prop :=
  Below w.heap.size w w' ∧ ((q = 0 ∧ ∃ v, e = .returned (.tuple #[v, .int .i64 0]) ∧ Owns w.heap.size w' v (joinL rs)) ∨ (q ≠ 0 ∧ e = .returned (.tuple #[.slice none 0 0, .int .i64 q])))
set_option maxRecDepth 100000 in
set_option maxHeartbeats 1000000 in
theorem fitting_any (FL FD : Nat → Prop) (lb db N : Nat) (st : St) (lg : LogD) (A : Option Addr) (l c more : Nat) (rs : List RecD) (spare q : Int) (w : World) (h : LogSt LI5 w FL FD lb db N st lg) (hl : rs.length = l) (hl2 : l ≤ 200) (ok : ∀ r ∈ rs, okR r) (g : GoodR A c rs w) (hs : isI64 spare) (hmo : more ≤ 1) (hq : fitsE N lg rs more spare = q) :
    Calls Try.prog 23 #[.pointer (some ⟨lb, 0, none⟩), .slice A l c, .int .i64 spare, .int .i64 more] w (FitSays rs q w) := by
  have c1 := join_any A l c rs hl hl2 ok w g
  have hjl := joinL_le rs
  rw [hl] at hjl
  have hnq : ((joinL rs).length + 15) / 16 = nOf rs := rfl
  obtain ⟨n, hn⟩ : ∃ n, nOf rs = n := ⟨_, rfl⟩
  rw [hn] at hnq
  have hn5 : n ≤ 400 := by omega
  unfold fitsE at hq
  rw [hn] at hq
  have HNQ := Lib.hid hnq
  have HQ := Lib.hid hq
  have HS := Lib.hid h
  obtain ⟨s1, s2, s3⟩ := h.ok.small
  obtain ⟨hn1, hn2⟩ := h.disk.n2
  obtain ⟨next, first, sure⟩ := lg
  simp only at *
  clear hq hnq hl ok g h hn
  go_enter Try.func23, Try.ntmps23
  go_wp2_with fail
  refine c1.mono ?_
  clear c1
  rintro e W1 (⟨hr, v, rfl, own, b1⟩ | ⟨hr, rfl, b1⟩)
  · have HR := Lib.hid hr
    clear hr
    have hS1 := HS.out.below5 b1
    have k1 := hS1.log.c1
    have cF := fun W (hW : Below W1.heap.size W1 W) => free5 FL FD lb db N st _ W (hS1.below5 hW)
    by_cases h0 : spare < 0
    · have h0d : decide (spare < 0) = true := by simpa using h0
      go_wp2
      go_ret2
      refine ⟨b1, .inr ?_⟩
      have : q = 11 := by rw [← HQ.out, HR.out, if_neg (by decide), if_pos h0]
      rw [this]
      exact ⟨by decide, rfl⟩
    · have h0d : decide (spare < 0) = false := by simpa using h0
      obtain ⟨A1, c1, rfl, g1⟩ := own.good
      obtain ⟨m, hm⟩ : ∃ m, (joinL rs).length = m := ⟨_, rfl⟩
      rw [hm] at HNQ hjl ⊢
      have c2 := fun W => sectorsFor_any A1 m c1 n (by omega) HNQ.out W
      have HM := Lib.hid hm
      clear hm
      have hsp : spare ≤ 9223372036854775807 := hs.2
      have hmi : (more : Int) ≤ 1 := by omega
      have hfull : ∀ (c1 : (N : Int) - next + sure - (n + more) < spare ∨ (4294967296 : Int) < next + (n + more)), q = 15 := fun hc => by
        rw [← HQ.out, HR.out, if_neg (by decide), if_neg h0, if_pos]
        omega
      have hzero : ∀ (c1 : ¬ ((N : Int) - next + sure - (n + more) < spare)) (c2 : ¬ ((4294967296 : Int) < next + (n + more))), q = 0 := fun hc1 hc2 => by
        rw [← HQ.out, HR.out, if_neg (by decide), if_neg h0, if_neg]
        omega
      have HF := Lib.hid hfull
      have HZ := Lib.hid hzero
      clear hfull hzero
      obtain ⟨fr, hfr⟩ : ∃ fr : Int, fr = (N : Int) - next + sure := ⟨_, rfl⟩
      rw [← hfr] at HF HZ cF
      have hfr1 : -4294967296 ≤ fr := by omega
      have hfr2 : fr ≤ 4294967808 := by omega
      clear hfr
      by_cases hA : fr - (n + more) < spare
      · have hAd : decide (fr - ((n : Int) + (more : Int)) < spare) = true := by simpa using hA
        go_wp2_with (first | (go_at_call 35; refine (c2 _).mono ?_; rintro e w' ⟨rfl, rfl⟩) | (go_at_call 17; refine (cF _ (Below.refl _ _)).mono ?_; rintro e W2 ⟨rfl, b2⟩))
        go_ret2
        refine ⟨below_more b1 b2 (Nat.le_refl _), .inr ?_⟩
        rw [HF.out (.inl hA)]
        exact ⟨by decide, rfl⟩
      · have hAd : decide (fr - ((n : Int) + (more : Int)) < spare) = false := by simpa using hA
        by_cases hB : (4294967296 : Int) < next + (n + more)
        · have hBd : decide ((4294967296 : Int) < (next : Int) + ((n : Int) + (more : Int))) = true := by simpa using hB
          go_wp2_with (first | (go_at_call 35; refine (c2 _).mono ?_; rintro e w' ⟨rfl, rfl⟩) | (go_at_call 17; refine (cF _ (Below.refl _ _)).mono ?_; rintro e W2 ⟨rfl, b2⟩; have k2 := (b2.cell (p := ⟨lb, 1, none⟩) hS1.log.lt).trans k1))
          go_ret2
          refine ⟨below_more b1 b2 (Nat.le_refl _), .inr ?_⟩
          rw [HF.out (.inr hB)]
          exact ⟨by decide, rfl⟩
        · have hBd : decide ((4294967296 : Int) < (next : Int) + ((n : Int) + (more : Int))) = false := by simpa using hB
          go_wp2_with (first | (go_at_call 35; refine (c2 _).mono ?_; rintro e w' ⟨rfl, rfl⟩) | (go_at_call 17; refine (cF _ (Below.refl _ _)).mono ?_; rintro e W2 ⟨rfl, b2⟩; have k2 := (b2.cell (p := ⟨lb, 1, none⟩) hS1.log.lt).trans k1))
          go_ret2
          refine ⟨below_more b1 b2 (Nat.le_refl _), .inl ⟨HZ.out hA hB, _, rfl, ?_⟩⟩
          rw [HM.out] at own
          exact own.below b2
  · have HR := Lib.hid hr
    clear hr
    go_wp2
    go_ret2
    refine ⟨b1, .inr ?_⟩
    have : q = 10 := by rw [← HQ.out, HR.out, if_pos rfl]
    rw [this]
    exact ⟨by decide, rfl⟩
theorem li5_set3 {w : World} {F : Nat → Prop} {lb db : Nat} {lg : LogD} (h : LI5 w F lb db lg) (x : Nat) (hx : x ≤ lg.first) : LI5 (w.setCell ⟨lb, 3, none⟩ (.int .i64 x)) F lb db ⟨lg.next, lg.first, x⟩ :=
  ⟨by simpa using h.lt, h.here, h.only, (World.cell?_setCell_other _ _ _ _ (by simp)).trans h.c0, (World.cell?_setCell_other _ _ _ _ (by simp)).trans h.c1, (World.cell?_setCell_other _ _ _ _ (by simp)).trans h.c2, World.cell?_setCell_same _ _ _ h.c3, by rw [World.frozen?_setCell]; exact h.f1, by rw [World.frozen?_setCell]; exact h.f2, by rw [World.frozen?_setCell]; exact h.f3, hx⟩
theorem li5_set2 {w : World} {F : Nat → Prop} {lb db : Nat} {lg : LogD} (h : LI5 w F lb db lg) (x : Nat) (hx : lg.sure ≤ x) : LI5 (w.setCell ⟨lb, 2, none⟩ (.int .i64 x)) F lb db ⟨lg.next, x, lg.sure⟩ :=
  ⟨by simpa using h.lt, h.here, h.only, (World.cell?_setCell_other _ _ _ _ (by simp)).trans h.c0, (World.cell?_setCell_other _ _ _ _ (by simp)).trans h.c1, World.cell?_setCell_same _ _ _ h.c2, (World.cell?_setCell_other _ _ _ _ (by simp)).trans h.c3, by rw [World.frozen?_setCell]; exact h.f1, by rw [World.frozen?_setCell]; exact h.f2, by rw [World.frozen?_setCell]; exact h.f3, hx⟩
theorem li5_set1 {w : World} {F : Nat → Prop} {lb db : Nat} {lg : LogD} (h : LI5 w F lb db lg) (x : Nat) : LI5 (w.setCell ⟨lb, 1, none⟩ (.int .i64 x)) F lb db ⟨x, lg.first, lg.sure⟩ :=
  ⟨by simpa using h.lt, h.here, h.only, (World.cell?_setCell_other _ _ _ _ (by simp)).trans h.c0, World.cell?_setCell_same _ _ _ h.c1, (World.cell?_setCell_other _ _ _ _ (by simp)).trans h.c2, (World.cell?_setCell_other _ _ _ _ (by simp)).trans h.c3, by rw [World.frozen?_setCell]; exact h.f1, by rw [World.frozen?_setCell]; exact h.f2, by rw [World.frozen?_setCell]; exact h.f3, h.sf⟩
set_option maxRecDepth 100000 in
set_option maxHeartbeats 1000000 in
theorem force5 (FL FD : Nat → Prop) (lb db N : Nat) (st : St) (lg : LogD) (w : World) (h : LogSt LI5 w FL FD lb db N st lg) (hc : st.cache.length ≤ 1000) : Calls Try.prog 11 #[.pointer (some ⟨lb, 0, none⟩)] w (LogDoes LI5 FL FD lb db N (flushS st) (forL lg) (.tuple #[]) w) := by
  have c0 := h.log.c0
  have c1 := flush_any FD db N st w h.disk hc
  have HS := Lib.hid h
  clear h
  go_enter Try.func11, Try.ntmps11
  go_wp2_with fail
  refine c1.mono ?_
  clear c1
  rintro e W1 ⟨rfl, hd, hm⟩
  have hli := HS.out.log.kept hm HS.out.apart
  have HD := Lib.hid hd
  have HM := Lib.hid hm
  have HL := Lib.hid hli
  have k2 := hli.c2
  have k3 := hli.c3
  have kf := hli.f3
  clear hd hm hli c0
  go_wp2
  go_end0
  have hlb : ¬ FD lb := HS.out.apart lb HS.out.log.here
  have hgl : ¬ grow FD w W1 lb := fun hg => hg.elim hlb (fun x => by have := HS.out.log.lt; omega)
  have hm2 : Moves (· = lb) W1 (W1.setCell ⟨lb, 3, none⟩ (.int .i64 lg.first)) := moves_setCell _ _ _ _ rfl
  refine ⟨rfl, (HM.out.mono (fun k hk => Or.inr hk)).trans hm2 (fun k hk => .inl (.inl (by rw [hk]; exact HS.out.log.here))), FL, grow FD w W1, ⟨?_, HD.out.moves hm2 (fun k hk e => hgl (e ▸ hk)), ?_, ?_, bytes_flush HS.out.bytes⟩, fun k hk => .inl hk, fun k hk => hk.elim .inl (fun x => .inr x.1)⟩
  · exact li5_set3 HL.out lg.first (Nat.le_refl _)
  · intro k hk hg
    rw [HS.out.log.only k hk] at hg
    exact hgl hg
  · have o := HS.out.ok
    exact ⟨o.one, o.one, o.first, o.first, o.next, by have := o.room; have := HS.out.log.sf; show lg.next ≤ lg.first + N; omega⟩
end Go.Proofs.Ytdmkkfpbgpijjaa
namespace Go.Proofs.Ytdmkkfpbgpijjaa
open Go.RowKit Go.Shelf

attribute [local go_sem] Oper.semAt_some
set_option linter.unusedVariables false

/-- Blocks Bs and Bn lie as they lay. -/
structure KP (Bs Bn : Nat) (A B : World) : Prop where
  s : B.heap[Bs]? = A.heap[Bs]?
  n : B.heap[Bn]? = A.heap[Bn]?
theorem KP.refl (Bs Bn : Nat) (A : World) : KP Bs Bn A A := ⟨rfl, rfl⟩
theorem KP.trans {Bs Bn : Nat} {A B C : World} (h : KP Bs Bn A B) (k : KP Bs Bn B C) : KP Bs Bn A C := ⟨k.s.trans h.s, k.n.trans h.n⟩
theorem KP.drew {Bs Bn : Nat} {A B : World} (h : KP Bs Bn A B) : KP Bs Bn A B.drew := ⟨h.s, h.n⟩
theorem kp_b {Bs Bn : Nat} {w : World} (hs : Bs < w.heap.size) (hn : Bn < w.heap.size) (W : World) (l : Nat) (o o' : Obj) (hl : w.heap.size ≤ l) (h : W.heap[l]? = some o) (h1 : o.isCells = false) (h2 : o.isWalk = false) : KP Bs Bn W (W.putObj l o') :=
  ⟨World.putObj_heap_other (by omega), World.putObj_heap_other (by omega)⟩
/-- The chunk at place x. -/
def chunkV (A : Option Addr) (len x : Nat) : Value := .slice (A.map fun a => ⟨a.block, a.off + 16 * x, none⟩) (min 16 (len - 16 * x)) (min 16 (len - 16 * x))
theorem grown_drew (W : World) : W.grownBy W.drew none := ⟨rfl, rfl, rfl, Nat.le_refl _, fun _ _ _ => rfl⟩
set_option maxRecDepth 100000 in
set_option maxHeartbeats 2000000 in
theorem chunk1_in (F : Fence) (n : Nat) (hf : F.fn 48) (hro : F.round = none) (hn : 1 ≤ n) (l Bs Bn cap len m : Nat) (A : Option Addr) (hlen : len ≤ 10000) (hcap : len ≤ cap) (hm : (len + 15) / 16 = m) (hA : 0 < len → ∃ b off, A = some ⟨b, off, none⟩) (J Jx : List (Pl m) → World → Prop) (W : World) (hJ : AbidesFrom W.heap.size J)
    (hY : ∀ pre x W, J pre W → pre.length < m → YieldAt F (n - 1) Try.prog l #[chunkV A len x.1] W fun e W' => (e = .returned (.bool true) ∧ J (pre ++ [x]) W' ∧ KP Bs Bn W W') ∨ (e = .returned (.bool false) ∧ Jx (pre ++ [x]) W'))
    (hBs : W.cell? ⟨Bs, 0, none⟩ = some (.slice A len cap)) (hBn : W.cell? ⟨Bn, 0, none⟩ = some (.int .i64 16)) (h0 : J [] W) :
    CallsIn F n Try.prog 48 #[.func (.yield l) #[] #[], .pointer (some ⟨Bs, 0, none⟩), .pointer (some ⟨Bn, 0, none⟩)] W fun e W' => (∃ v, e = .returned v) ∧
      ((∃ ys : List (Pl m), ys.map (·.1) = List.range m ∧ J ys W') ∨ (∃ pre, True ∧ Jx pre W')) := by
  refine callsIn_of_wp Try.func48 rfl hf ?_ hro
  simp only [Try.ntmps48, List.size_toArray, List.length_cons, List.length_nil, Nat.reduceAdd, Nat.reduceSub, Array.replicate_succ, Array.replicate_zero, List.push_toArray, List.append_toArray, List.nil_append, List.cons_append]
  gi_wp2
  gi_loopw [4] (fun i wr => ∃ (k : Nat) (pre : List (Pl m)), k ≤ m ∧ i = .int .i64 ((16 * k : Nat) : Int) ∧ pre.map (·.1) = List.range k ∧ J pre wr ∧ KP Bs Bn W wr) (fun i _ => 10016 - (intOf i).toNat)
  case atStart => exact ⟨0, [], Nat.zero_le _, rfl, rfl, h0, KP.refl _ _ _⟩
  case round =>
    obtain ⟨k, pre, hk, rfl, hp, hJs, hnx⟩ := hrel
    have kBs : wr.cell? ⟨Bs, 0, none⟩ = some (.slice A len cap) := (World.cell?_of_block (a := ⟨Bs, 0, none⟩) hnx.s).trans hBs
    have kBn : wr.cell? ⟨Bn, 0, none⟩ = some (.int .i64 16) := (World.cell?_of_block (a := ⟨Bn, 0, none⟩) hnx.n).trans hBn
    obtain ⟨ii, hii⟩ : ∃ ii, 16 * k = ii := ⟨_, rfl⟩
    rw [hii]
    by_cases hlt : k < m
    · have hlen0 : 0 < len := by omega
      obtain ⟨b, off, rfl⟩ := hA hlen0
      have hil : ii < len := by omega
      have hili : (ii : Int) < (len : Int) := by omega
      have hild : decide (ii < len) = true := by simpa using hil
      obtain ⟨ee, hee⟩ : ∃ ee, min 16 (len - ii) = ee := ⟨_, rfl⟩
      have hpl : pre.length = k := by
        have := congrArg List.length hp
        rwa [List.length_map, List.length_range] at this
      have hJd : J pre wr.drew := hJ pre wr wr.drew none hJs (grown_drew wr) (fun r e => by cases e)
      obtain ⟨fn, tmps, assign, body, hy, hR⟩ := hY pre ⟨k, hlt⟩ wr.drew hJd (by omega)
      have hp1 : (pre ++ [(⟨k, hlt⟩ : Pl m)]).map (·.1) = List.range (k + 1) := by rw [List.map_append, hp, List.range_succ]; rfl
      have HP1 := Lib.hid hp1
      unfold chunkV at hy
      simp only [Option.map_some] at hy
      rw [hii, hee] at hy
      have HI := Lib.hid hii
      clear hp1 hp hpl hii
      have hif : (if ((len - ii : Nat) : Int) < 16 then ((len - ii : Nat) : Int) else 16) = (ee : Int) := by split <;> omega
      have he1 : ee ≤ 16 := by omega
      have he2 : ii + ee ≤ len := by omega
      have he3 : (ii : Int) + (ee : Int) ≤ (cap : Int) := by omega
      have he4 : (ii : Int) ≤ (ii : Int) + (ee : Int) := by omega
      have he5 : ((ii : Int) + (ee : Int)).toNat - ii = ee := by omega
      have he6 : ¬ (cap = ii) := by omega
      have he7 : ¬ ((ii : Int) + (ee : Int) < 0) := by omega
      have he8 : ee ≠ 0 := by omega
      clear hee
      gi_wp2
      gi_region
      all_goals
        gi_wp2_with fail
        refine hR.mono ?_
        rintro e W3 (⟨rfl, hJ3, hk3⟩ | ⟨rfl, hJx3⟩)
        · have hk4 := hnx.drew.trans hk3
          have kBn3 : W3.cell? ⟨Bn, 0, none⟩ = some (.int .i64 16) := (World.cell?_of_block (a := ⟨Bn, 0, none⟩) hk4.n).trans hBn
          gi_wp2
          go_roundw
          case rel => exact ⟨k + 1, _, by omega, by have := HI.out; rw [show 16 * (k + 1) = ii + 16 by omega]; go_num, HP1.out, hJ3, hk4⟩
          case measure => have := HI.out; simp [intOf]; omega
        · gi_wp2
          refine bodyPost_ret (results_none rfl _ _ _) rfl ?_
          exact ⟨⟨_, rfl⟩, .inr ⟨_, trivial, hJx3⟩⟩
    · obtain rfl : k = m := by omega
      have HP := Lib.hid hp
      have hili : ¬ ((ii : Int) < (len : Int)) := by omega
      have hild : decide (ii < len) = false := by simp; omega
      clear hp
      gi_wp2
      go_end0
      exact ⟨⟨_, rfl⟩, .inl ⟨pre, HP.out, hJs⟩⟩

set_option maxHeartbeats 1000000 in
theorem chunk_in (F : Fence) (n : Nat) (hf : F.fn 38) (hro : F.round = none) (a : Option Addr) (len cap : Nat) (w : World) :
    CallsIn F n Try.prog 38 #[.slice a len cap, .int .i64 16] w fun e w' => e = .returned (.func (.func 48) #[] #[.pointer (some ⟨w.heap.size, 0, none⟩), .pointer (some ⟨w.heap.size + 1, 0, none⟩)]) ∧ w' = (w.alloc (.cells #[.slice a len cap] 52)).alloc (.cells #[.int .i64 16] 3) := by
  refine callsIn_of_wp Try.func38 rfl hf ?_ hro
  simp only [Try.ntmps38, List.size_toArray, List.length_cons, List.length_nil, Nat.reduceAdd, Nat.reduceSub, Array.replicate_succ, Array.replicate_zero, List.push_toArray, List.append_toArray, List.nil_append, List.cons_append]
  gi_wp2
  go_ret
  exact ⟨rfl, rfl⟩
theorem chunk_stops (F : Fence) (n : Nat) (hf : F.fn 48) (hro : F.round = none) (hn : 1 ≤ n) (Bs Bn cap len m : Nat) (A : Option Addr) (hlen : len ≤ 10000) (hcap : len ≤ cap) (hm : (len + 15) / 16 = m) (hA : 0 < len → ∃ b off, A = some ⟨b, off, none⟩) (w : World) (hBs : Bs < w.heap.size) (hBn : Bn < w.heap.size)
    (hc : w.cell? ⟨Bs, 0, none⟩ = some (.slice A len cap)) (hc2 : w.cell? ⟨Bn, 0, none⟩ = some (.int .i64 16)) :
    SeqStopsK F n Try.prog 48 #[.pointer (some ⟨Bs, 0, none⟩), .pointer (some ⟨Bn, 0, none⟩)] (fun x : Pl m => #[chunkV A len x.1]) (KP Bs Bn) (fun ys => ys.map (·.1) = List.range m) (fun _ => True) m w := fun l J Jx W hW hJ _ hY h0 =>
  chunk1_in F n hf hro hn l Bs Bn cap len m A hlen hcap hm hA J Jx W hJ hY ((hW.cell (p := ⟨Bs, 0, none⟩) hBs).trans hc) ((hW.cell (p := ⟨Bn, 0, none⟩) hBn).trans hc2) h0
end Go.Proofs.Ytdmkkfpbgpijjaa
namespace Go.Proofs.Ytdmkkfpbgpijjaa
open Go.RowKit Go.Deep Go.Maps

def DoesIn (F : Nat → Prop) (db lb mb n : Nat) (st : St) (v : Value) (w : World) (e : Ending) (w' : World) : Prop :=
  e = .returned v ∧ (∃ cv, DiskIn w' db lb mb cv n st ∧ ∀ k, cv.ownBlock = some k → F k ∨ w.heap.size ≤ k) ∧ Moves F w w'
theorem doesIn_mk {F : Nat → Prop} {db lb mb n : Nat} {cv : Value} {st : St} {v : Value} {w w' : World} (h : DiskIn w' db lb mb cv n st) (hm : Moves F w w') (_ : F db) (_ : F lb) (_ : F mb) (f3 : ∀ k, cv.ownBlock = some k → F k ∨ w.heap.size ≤ k) (_ : ∀ k, F k → k < w.heap.size) : DoesIn F db lb mb n st v w (.returned v) w' :=
  ⟨rfl, ⟨cv, h, f3⟩, hm⟩
set_option maxRecDepth 100000 in
set_option maxHeartbeats 2000000 in
theorem write_in (F : Nat → Prop) (db lb mb : Nat) (cv : Value) (n i : Nat) (st : St) (A : Option Addr) (c : Nat) (zs : List Int) (w : World) (h : DiskIn w db lb mb cv n st) (f0 : F db) (f1 : F lb) (f2 : F mb) (f3 : ∀ k, cv.ownBlock = some k → F k) (f4 : ∀ k, F k → k < w.heap.size) (hi : i < n) (hz : zs.length = 32) (hg : Good A c zs w) (hc : st.cache.length ≤ 999) :
    Calls Try.prog 45 #[.pointer (some ⟨db, 0, none⟩), .int .i64 i, .slice A 32 c] w (DoesIn F db lb mb n (writeS st i zs) (.int .i64 0) w) := by
  have c0 := h.c0
  obtain ⟨ab, af, rfl, _, hcell⟩ := hg.1 (by omega)
  have hin := Lib.hid (show w.rangeAt ab af (secC zs) from fun j v hv => by
    have hj : j < zs.length := by
      rcases Nat.lt_or_ge j zs.length with h | h
      · exact h
      · rw [List.getElem?_eq_none (by rw [secC_len]; exact h)] at hv; cases hv
    rw [hcell j hj]
    simp [secC, hj] at hv
    simp [hj, hv])
  clear hcell hg
  have hgood := Lib.hid (show goodAt n i = true by unfold goodAt; simp; omega)
  have HY := Lib.hid ((secC_len zs).trans hz)
  have HZ := Lib.hid hz
  clear hz
  have har : ∀ w : World, (Instr.arrayAt 66 (.slice (some ⟨ab, af, none⟩) 32 c)).run Try.prog w = .ok (.pointer (some ⟨ab, af, none⟩)) w := fun w => by
    simp [Instr.arrayAt, run_underlying Try.underlying66]
  go_enter Try.func45, Try.ntmps45
  go_wp2_with fail
  refine (there_any db lb n i _ c0).mono ?_
  rintro e w' ⟨rfl, rfl⟩
  rw [hgood.out]
  go_wp2_with (first | (refine wpList_load_mid rfl 66 (.tmp 16) rfl ab af rfl (secC zs) _ hin.out Try.underlying66 rfl (by rw [HY.out]; exact size_sec) ?_) | (refine wpList_allocT rfl 66 rfl _ 32 (by simp) info_sec2 ?_; intro W1 e1 b1 t1; have T1 := Lib.hid t1; have E1 := Lib.hid e1; clear t1 e1) | (refine wpList_storeT rfl 66 _ (.tmp 17) rfl _ _ (secC zs) rfl rfl (by rw [HY.out]; exact T1.out) (by rw [HY.out]; exact size_sec) (secC_one _) ?_; intro W2 e2))
  have hs2 := size_store e2
  have hs1 := E1.out
  have hW2 : Below w.heap.size w W2 := b1.trans (below_store e2 (by omega) (Nat.le_refl _))
  have hd2 := h.below hW2
  have hr2 := range_store e2 (by rw [HY.out]; exact T1.out)
  have k1 : W2.cell? ⟨db, 1, none⟩ = some cv := hd2.c1
  have kf : W2.frozen? ⟨db, 1, none⟩ = false := hd2.fz
  have hlt0 : db < W2.heap.size := hd2.lt0
  have hrow := Lib.hid hd2.row
  have hHW : W2.heap.size = w.heap.size + 1 := by omega
  have hnb : w.heap.size < W2.heap.size := by omega
  have hdn : db < w.heap.size := h.lt0
  clear hs1 hs2 e2
  have HD2 := Lib.hid hd2
  have HB2 := Lib.hid hW2
  have HHW := Lib.hid hHW
  clear hd2 hW2 hHW T1 E1 b1
  generalize hnbe : w.heap.size = nb at *
  have HNB := Lib.hid hnbe
  clear hnbe
  have hu := Try.underlying66
  have hi61 : (Try.prog.info? 66).map (·.size) = some (secC zs).length := by rw [HY.out]; exact size_sec
  obtain ⟨i0, hi0, hz0, hz1, hz2⟩ := info_parts info_wr
  have hcl := HY.out
  have hf1 := fold_wr i zs HZ.out
  have hC := wrC_len (i, zs) HZ.out
  have hone := Lib.hid (wrC_one (i, zs))
  generalize hCe : wrC (i, zs) = C at *
  have HCE := Lib.hid hCe
  clear hCe
  have hf2 := fold_all C hC
  have k1' : ∀ o : Obj, (W2.alloc o).cell? ⟨db, 1, none⟩ = some cv := fun o => (World.cell?_alloc_lt W2 o _ hlt0).trans k1
  have hne4 : some db ≠ cv.ownBlock := Ne.symm h.ne4
  have hne7 : some nb ≠ cv.ownBlock := fun e => by have := f4 nb (f3 nb e.symm); omega
  have hne8 : nb ≠ db := by omega
  have hlenC := hc
  -- by hand
  refine wp_region_noPanic ?_
  refine wp_region_held_drew (S := fun w' => w'.rangeAt nb 0 (secC zs)) (by kernel_rfl) hr2 (fun hHeld => ?_)
  refine wpAnyH_take (i := 0) (oi := ⟨some 18, _, _, _, _, _⟩) (v := ?v1) rfl (by kernel_rfl) (by kernel_rfl) (by kernel_rfl) (fun _ _ _ h => h) (Or.inl ⟨by rfl, ?y1⟩) (by assumption) ?r1
  case y1 =>
    intro w hSw
    go_simp
    try with_reducible rfl
  simp only [Act.put, List.setIfInBounds_toArray, List.set_cons_zero, List.set_cons_succ]
  refine wpAnyH_take (i := 1) (oi := ⟨some 19, _, _, _, _, _⟩) (v := ?v2) rfl (by kernel_rfl) (by kernel_rfl) (by kernel_rfl) (fun _ _ _ h => h) (Or.inl ⟨by rfl, ?y2⟩) (by assumption) ?r2
  case y2 =>
    intro w hSw
    go_simp
    try with_reducible rfl
  simp only [Act.put, List.setIfInBounds_toArray, List.set_cons_zero, List.set_cons_succ]
  refine wpAnyH_take (i := 2) (oi := ⟨some 20, _, _, _, _, _⟩) (v := ?v3) rfl (by kernel_rfl) (by kernel_rfl) (by kernel_rfl) (fun _ _ _ h => h) (Or.inl ⟨by rfl, ?y3⟩) (by assumption) ?r3
  case y3 =>
    intro w hSw
    go_simp
    try with_reducible rfl
  simp only [Act.put, List.setIfInBounds_toArray, List.set_cons_zero, List.set_cons_succ]
  refine wpAnyH_take (i := 3) (oi := ⟨some 21, _, _, _, _, _⟩) (v := ?v4) rfl (by kernel_rfl) (by kernel_rfl) (by kernel_rfl) (fun _ _ _ h => h) (Or.inl ⟨by rfl, ?y4⟩) (by assumption) ?r4
  case y4 =>
    intro w hSw
    go_simp
    try with_reducible rfl
  simp only [Act.put, List.setIfInBounds_toArray, List.set_cons_zero, List.set_cons_succ]
  refine wpAnyH_take (i := 5) (oi := ⟨some 23, _, _, _, _, _⟩) (v := ?v5) rfl (by kernel_rfl) (by kernel_rfl) (by kernel_rfl) (fun _ _ _ h => h) (Or.inl ⟨by rfl, ?y5⟩) (by assumption) ?r5
  case y5 =>
    intro w hSw
    go_simp
    try with_reducible rfl
  simp only [Act.put, List.setIfInBounds_toArray, List.set_cons_zero, List.set_cons_succ]
  refine wpAnyH_take (i := 6) (oi := ⟨some 24, _, _, _, _, _⟩) (v := _) rfl (by kernel_rfl) (by kernel_rfl) (by kernel_rfl) (fun _ _ _ h => h) (yieldsIf_load_mid (by rfl) _ _ rfl _ _ rfl _ _ (fun w hSw => hSw) hu rfl hi61) (by assumption) ?_
  simp only [Act.put, List.setIfInBounds_toArray, List.set_cons_zero, List.set_cons_succ]
  refine wpAnyH_take (i := 7) (oi := ⟨some 25, _, _, _, _, _⟩) (v := ?v6) rfl (by kernel_rfl) (by kernel_rfl) (by kernel_rfl) (fun _ _ _ h => h) (Or.inl ⟨by rfl, ?y6⟩) (by assumption) ?r6
  case y6 =>
    intro w hSw
    go_simp
    try with_reducible rfl
  simp only [Act.put, List.setIfInBounds_toArray, List.set_cons_zero, List.set_cons_succ]
  refine wpAnyH_ready (rs := [4, 8]) (by kernel_rfl) (by simp) ?_
  refine AllReadyH.cons (o := ⟨some 22, _, _, _, _, _⟩) rfl (fun K hK => ?_) (AllReadyH.cons (o := ⟨some 26, _, _, _, _, _⟩) rfl (fun K hK => ?_) AllReadyH.nil)
  · go_simp
    refine hK.out _ _ ?_ (fun hHeld => ?_)
    · exact hHeld
    clear hK K
    try simp only [Act.put, List.setIfInBounds_toArray, List.set_cons_zero, List.set_cons_succ]
    refine wpAnyH_ready (rs := [8]) (by kernel_rfl) (by simp) ?_
    refine AllReadyH.cons (o := ⟨some 26, _, _, _, _, _⟩) rfl (fun K hK => ?_) AllReadyH.nil
    go_simp
    refine hK.out _ _ ?_ (fun hHeld => ?_)
    · exact World.rangeAt_alloc hr2 _
    clear hK K
    try simp only [Act.put, List.setIfInBounds_toArray, List.set_cons_zero, List.set_cons_succ]
    refine wpAnyH_ready (rs := [9]) (by kernel_rfl) (by simp) ?_
    refine AllReadyH.cons (o := ⟨some 27, _, _, _, _, _⟩) rfl (fun K hK => ?_) AllReadyH.nil
    refine step_append_lies _ (by rfl) _ _ _ (by rfl) 0 68 i0 _ 33 40 Try.underlying59 hi0 hz0 hz1 hz2 (by simp [Value.cells]) (by omega) cv st.cache.length (st.cache.flatMap wrC) (by rfl) ((hrow.out.alloc _).drew) ⟨W2.heap.size, 0, none⟩ 1 1 C (by rfl) (by simp [hC]) (World.news_of_block (cs := C.toArray) (t := 68) (fr := (0, 0)) (heap_alloc_new W2 _)) hone.out (by omega) (by simp only [maxLen]; omega) (by omega) (by omega) (W2.heap.size + 1) (by simp) ?_
    intro gg cap w1 hown1 hgrow hat hlt
    have k1b : w1.cell? ⟨db, 1, none⟩ = some cv := (World.cell?_of_block (a := ⟨db, 1, none⟩) (hgrow.block db (by simp; omega) hne4)).trans (k1' _)
    have kfb : w1.frozen? ⟨db, 1, none⟩ = false := ((World.frozen?_of_block (a := ⟨db, 1, none⟩) (hgrow.block db (by simp; omega) hne4)).trans (World.frozen?_alloc_past _ db 1 hlt0)).trans kf
    refine hK.out _ _ ?_ (fun hHeld => ?_)
    · exact rangeAt_of_block' (hgrow.block nb (by simp; omega) hne7) (World.rangeAt_alloc hr2 _)
    clear hK K
    try simp only [Act.put, List.setIfInBounds_toArray, List.set_cons_zero, List.set_cons_succ]
    refine wpAnyH_take (i := 10) (oi := ⟨some 28, _, _, _, _, _⟩) (v := ?v9) rfl (by kernel_rfl) (by kernel_rfl) (by kernel_rfl) (fun _ _ _ h => h) (Or.inl ⟨by rfl, ?y9⟩) (by assumption) ?r9
    case y9 =>
      intro w hSw
      go_simp
      try with_reducible rfl
    simp only [Act.put, List.setIfInBounds_toArray, List.set_cons_zero, List.set_cons_succ]
    refine wpAnyH_take (i := 11) (oi := ⟨some 29, _, _, _, _, _⟩) (v := ?v10) rfl (by kernel_rfl) (by kernel_rfl) (by kernel_rfl) (fun _ _ _ h => h) (Or.inl ⟨by rfl, ?y10⟩) (by assumption) ?r10
    case y10 =>
      intro w hSw
      go_simp
      try with_reducible rfl
    simp only [Act.put, List.setIfInBounds_toArray, List.set_cons_zero, List.set_cons_succ]
    refine wpAnyH_ready (rs := [12]) (by kernel_rfl) (by simp) ?_
    refine AllReadyH.cons (o := ⟨none, _, _, _, _, _⟩) rfl (fun K hK => ?_) AllReadyH.nil
    go_simp
    refine hK.out _ _ ?_ (fun hHeld => ?_)
    · exact range_setCell_apart hHeld (by simpa using hne8)
    clear hK K
    try simp only [Act.put, List.setIfInBounds_toArray, List.set_cons_zero, List.set_cons_succ]
    refine wpAnyH_done (by kernel_rfl) ?_ _
    refine NoPanic.normal ?_
    clear hf1 hf2 hcl
    have hnn := h.n2
    have k2b : (w1.setCell ⟨db, 1, none⟩ (Value.slice (some ⟨gg, 0, none⟩) (st.cache.length + 1) cap)).cell? ⟨db, 2, none⟩ = some (.map (some mb)) :=
      (World.cell?_setCell_other _ _ _ _ (by simp)).trans ((World.cell?_of_block (a := ⟨db, 2, none⟩) (hgrow.block db (by simp; omega) hne4)).trans ((World.cell?_alloc_lt W2 _ ⟨db, 2, none⟩ hlt0).trans HD2.out.c2))
    have hmb : (w1.setCell ⟨db, 1, none⟩ (Value.slice (some ⟨gg, 0, none⟩) (st.cache.length + 1) cap)).ownsMap Try.prog 3 secR mb st.cache.length (mapOf st.cache) :=
      World.ownsMap.setCell (map_kept HD2.out.map ((hgrow.block mb (by have := HD2.out.map.lt; simp; omega) (Ne.symm HD2.out.ne6)).trans (Below.heap_alloc W2 _ mb HD2.out.map.lt))) (Ne.symm h.ne2) _
    have hrn : (w1.setCell ⟨db, 1, none⟩ (Value.slice (some ⟨gg, 0, none⟩) (st.cache.length + 1) cap)).rangeAt nb 0 (secC zs) := by assumption
    have hlt3 : db < (w1.setCell ⟨db, 1, none⟩ (Value.slice (some ⟨gg, 0, none⟩) (st.cache.length + 1) cap)).heap.size := by have := hgrow.size; simp at this ⊢; omega
    have hnb3 : nb < (w1.setCell ⟨db, 1, none⟩ (Value.slice (some ⟨gg, 0, none⟩) (st.cache.length + 1) cap)).heap.size := by have := hgrow.size; simp at this ⊢; omega
    have hnm : nb ≠ mb := fun e => by have := f4 mb f2; omega
    have HG := Lib.hid (fun (W4 : World) hmp hmv => HD2.out.written (F := F) (i := i) (zs := zs) (W4 := W4) hi HZ.out hgrow (HCE.out ▸ hown1) hat hmp hmv f0 f2 f3)
    generalize (w1.setCell ⟨db, 1, none⟩ (Value.slice (some ⟨gg, 0, none⟩) (st.cache.length + 1) cap)) = W3 at *
    go_wp2
    refine wp_region_noPanic ?_
    refine wp_region_held_drew (S := fun w' => w'.cell? ⟨db, 2, none⟩ = some (.map (some mb)) ∧ w'.rangeAt nb 0 (secC zs)) (by kernel_rfl) ⟨k2b, hrn⟩ (fun hHeld => ?_)
    refine wpAnyH_take (i := 0) (oi := ⟨some 30, _, _, _, _, _⟩) (v := ?v17) rfl (by kernel_rfl) (by kernel_rfl) (by kernel_rfl) (fun _ _ _ h => h) (Or.inl ⟨by rfl, ?y17⟩) (by assumption) ?r17
    case y17 =>
      intro w hSw; obtain ⟨hSw, hSw2⟩ := hSw
      go_simp
      try with_reducible rfl
    simp only [Act.put, List.setIfInBounds_toArray, List.set_cons_zero, List.set_cons_succ]
    refine wpAnyH_take (i := 1) (oi := ⟨some 31, _, _, _, _, _⟩) (v := ?v18) rfl (by kernel_rfl) (by kernel_rfl) (by kernel_rfl) (fun _ _ _ h => h) (Or.inl ⟨by rfl, ?y18⟩) (by assumption) ?r18
    case y18 =>
      intro w hSw; obtain ⟨hSw, hSw2⟩ := hSw
      go_simp
      try with_reducible rfl
    simp only [Act.put, List.setIfInBounds_toArray, List.set_cons_zero, List.set_cons_succ]
    refine wpAnyH_take (i := 2) (oi := ⟨some 32, _, _, _, _, _⟩) (v := ?v19) rfl (by kernel_rfl) (by kernel_rfl) (by kernel_rfl) (fun _ _ _ h => h) (Or.inl ⟨by rfl, ?y19⟩) (by assumption) ?r19
    case y19 =>
      intro w hSw; obtain ⟨hSw, hSw2⟩ := hSw
      go_simp
      try with_reducible rfl
    simp only [Act.put, List.setIfInBounds_toArray, List.set_cons_zero, List.set_cons_succ]
    refine wpAnyH_take (i := 3) (oi := ⟨some 33, _, _, _, _, _⟩) (v := ?v20) rfl (by kernel_rfl) (by kernel_rfl) (by kernel_rfl) (fun _ _ _ h => h) (Or.inl ⟨by rfl, ?y20⟩) (by assumption) ?r20
    case y20 =>
      intro w hSw; obtain ⟨hSw, hSw2⟩ := hSw
      go_simp
      try with_reducible rfl
    simp only [Act.put, List.setIfInBounds_toArray, List.set_cons_zero, List.set_cons_succ]
    refine wpAnyH_take (i := 4) (oi := ⟨some 34, _, _, _, _, _⟩) (v := ?v21) rfl (by kernel_rfl) (by kernel_rfl) (by kernel_rfl) (fun _ _ _ h => h) (Or.inl ⟨by rfl, ?y21⟩) (by assumption) ?r21
    case y21 =>
      intro w hSw; obtain ⟨hSw, hSw2⟩ := hSw
      go_simp
      try with_reducible rfl
    simp only [Act.put, List.setIfInBounds_toArray, List.set_cons_zero, List.set_cons_succ]
    refine wpAnyH_take (i := 5) (oi := ⟨some 35, _, _, _, _, _⟩) (v := _) rfl (by kernel_rfl) (by kernel_rfl) (by kernel_rfl) (fun _ _ _ h => h) (yieldsIf_load_mid (by rfl) _ _ rfl _ _ rfl _ _ (fun w hSw => hSw.2) hu rfl hi61) (by assumption) ?_
    simp only [Act.put, List.setIfInBounds_toArray, List.set_cons_zero, List.set_cons_succ]
    refine wpAnyH_ready (rs := [6]) (by kernel_rfl) (by simp) ?_
    refine AllReadyH.cons (o := ⟨none, _, _, _, _, _⟩) rfl (fun K hK => ?_) AllReadyH.nil
    refine step_mapUpdate (by rfl) _ _ _ _ (by rfl) 3 66 intK Try.underlying60 secR mb st.cache.length (mapOf st.cache) (by rfl) hmb (by simp only [maxLen]; omega) _ _ (keyL i) (by rfl) (by rfl) (keyI i (by omega)) (secD zs) [] (secR_mk zs) ?_
    intro W4 hown4 hgrow4
    refine hK.out _ _ ?_ (fun hHeld => ?_)
    · exact ⟨(World.cell?_of_block (a := ⟨db, 2, none⟩) (hgrow4.block db hlt3 (fun e => h.ne2 (by injection e)))).trans k2b, rangeAt_of_block' (hgrow4.block nb hnb3 (fun e => hnm (by injection e))) hrn⟩
    clear hK K
    refine wpAnyH_done (by kernel_rfl) ?_ _
    refine NoPanic.normal ?_
    have hfin := HG.out W4 ⟨hgrow4.os, hgrow4.tape, hgrow4.output, hgrow4.size, hgrow4.block⟩ hown4
    clear HG
    go_wp2
    go_ret
    refine doesIn_mk hfin.1 ((moves_of_below (F := F) (by rw [HNB.out]; exact HB2.out)).trans hfin.2 (fun _ e => .inl e)) f0 f1 f2 ?_ (by rw [HNB.out]; exact f4)
    intro k hk
    have hk' : gg = k := by simpa [Value.ownBlock] using hk
    subst hk'
    rw [HNB.out]
    exact hat.elim (fun e => .inl (f3 _ e)) (fun e => .inr (by omega))
  · go_simp
    refine hK.out _ _ ?_ (fun hHeld => ?_)
    · exact World.rangeAt_alloc hr2 _
    clear hK K
    try simp only [Act.put, List.setIfInBounds_toArray, List.set_cons_zero, List.set_cons_succ]
    refine wpAnyH_ready (rs := [4]) (by kernel_rfl) (by simp) ?_
    refine AllReadyH.cons (o := ⟨some 22, _, _, _, _, _⟩) rfl (fun K hK => ?_) AllReadyH.nil
    go_simp
    refine hK.out _ _ ?_ (fun hHeld => ?_)
    · exact hHeld
    clear hK K
    try simp only [Act.put, List.setIfInBounds_toArray, List.set_cons_zero, List.set_cons_succ]
    refine wpAnyH_ready (rs := [9]) (by kernel_rfl) (by simp) ?_
    refine AllReadyH.cons (o := ⟨some 27, _, _, _, _, _⟩) rfl (fun K hK => ?_) AllReadyH.nil
    refine step_append_lies _ (by rfl) _ _ _ (by rfl) 0 68 i0 _ 33 40 Try.underlying59 hi0 hz0 hz1 hz2 (by simp [Value.cells]) (by omega) cv st.cache.length (st.cache.flatMap wrC) (by rfl) ((hrow.out.alloc _).drew) ⟨W2.heap.size, 0, none⟩ 1 1 C (by rfl) (by simp [hC]) (World.news_of_block (cs := C.toArray) (t := 68) (fr := (0, 0)) (heap_alloc_new W2 _)) hone.out (by omega) (by simp only [maxLen]; omega) (by omega) (by omega) (W2.heap.size + 1) (by simp) ?_
    intro gg cap w1 hown1 hgrow hat hlt
    have k1b : w1.cell? ⟨db, 1, none⟩ = some cv := (World.cell?_of_block (a := ⟨db, 1, none⟩) (hgrow.block db (by simp; omega) hne4)).trans (k1' _)
    have kfb : w1.frozen? ⟨db, 1, none⟩ = false := ((World.frozen?_of_block (a := ⟨db, 1, none⟩) (hgrow.block db (by simp; omega) hne4)).trans (World.frozen?_alloc_past _ db 1 hlt0)).trans kf
    refine hK.out _ _ ?_ (fun hHeld => ?_)
    · exact rangeAt_of_block' (hgrow.block nb (by simp; omega) hne7) (World.rangeAt_alloc hr2 _)
    clear hK K
    try simp only [Act.put, List.setIfInBounds_toArray, List.set_cons_zero, List.set_cons_succ]
    refine wpAnyH_take (i := 10) (oi := ⟨some 28, _, _, _, _, _⟩) (v := ?v14) rfl (by kernel_rfl) (by kernel_rfl) (by kernel_rfl) (fun _ _ _ h => h) (Or.inl ⟨by rfl, ?y14⟩) (by assumption) ?r14
    case y14 =>
      intro w hSw
      go_simp
      try with_reducible rfl
    simp only [Act.put, List.setIfInBounds_toArray, List.set_cons_zero, List.set_cons_succ]
    refine wpAnyH_take (i := 11) (oi := ⟨some 29, _, _, _, _, _⟩) (v := ?v15) rfl (by kernel_rfl) (by kernel_rfl) (by kernel_rfl) (fun _ _ _ h => h) (Or.inl ⟨by rfl, ?y15⟩) (by assumption) ?r15
    case y15 =>
      intro w hSw
      go_simp
      try with_reducible rfl
    simp only [Act.put, List.setIfInBounds_toArray, List.set_cons_zero, List.set_cons_succ]
    refine wpAnyH_ready (rs := [12]) (by kernel_rfl) (by simp) ?_
    refine AllReadyH.cons (o := ⟨none, _, _, _, _, _⟩) rfl (fun K hK => ?_) AllReadyH.nil
    go_simp
    refine hK.out _ _ ?_ (fun hHeld => ?_)
    · exact range_setCell_apart hHeld (by simpa using hne8)
    clear hK K
    try simp only [Act.put, List.setIfInBounds_toArray, List.set_cons_zero, List.set_cons_succ]
    refine wpAnyH_done (by kernel_rfl) ?_ _
    refine NoPanic.normal ?_
    clear hf1 hf2 hcl
    have hnn := h.n2
    have k2b : (w1.setCell ⟨db, 1, none⟩ (Value.slice (some ⟨gg, 0, none⟩) (st.cache.length + 1) cap)).cell? ⟨db, 2, none⟩ = some (.map (some mb)) :=
      (World.cell?_setCell_other _ _ _ _ (by simp)).trans ((World.cell?_of_block (a := ⟨db, 2, none⟩) (hgrow.block db (by simp; omega) hne4)).trans ((World.cell?_alloc_lt W2 _ ⟨db, 2, none⟩ hlt0).trans HD2.out.c2))
    have hmb : (w1.setCell ⟨db, 1, none⟩ (Value.slice (some ⟨gg, 0, none⟩) (st.cache.length + 1) cap)).ownsMap Try.prog 3 secR mb st.cache.length (mapOf st.cache) :=
      World.ownsMap.setCell (map_kept HD2.out.map ((hgrow.block mb (by have := HD2.out.map.lt; simp; omega) (Ne.symm HD2.out.ne6)).trans (Below.heap_alloc W2 _ mb HD2.out.map.lt))) (Ne.symm h.ne2) _
    have hrn : (w1.setCell ⟨db, 1, none⟩ (Value.slice (some ⟨gg, 0, none⟩) (st.cache.length + 1) cap)).rangeAt nb 0 (secC zs) := by assumption
    have hlt3 : db < (w1.setCell ⟨db, 1, none⟩ (Value.slice (some ⟨gg, 0, none⟩) (st.cache.length + 1) cap)).heap.size := by have := hgrow.size; simp at this ⊢; omega
    have hnb3 : nb < (w1.setCell ⟨db, 1, none⟩ (Value.slice (some ⟨gg, 0, none⟩) (st.cache.length + 1) cap)).heap.size := by have := hgrow.size; simp at this ⊢; omega
    have hnm : nb ≠ mb := fun e => by have := f4 mb f2; omega
    have HG := Lib.hid (fun (W4 : World) hmp hmv => HD2.out.written (F := F) (i := i) (zs := zs) (W4 := W4) hi HZ.out hgrow (HCE.out ▸ hown1) hat hmp hmv f0 f2 f3)
    generalize (w1.setCell ⟨db, 1, none⟩ (Value.slice (some ⟨gg, 0, none⟩) (st.cache.length + 1) cap)) = W3 at *
    go_wp2
    refine wp_region_noPanic ?_
    refine wp_region_held_drew (S := fun w' => w'.cell? ⟨db, 2, none⟩ = some (.map (some mb)) ∧ w'.rangeAt nb 0 (secC zs)) (by kernel_rfl) ⟨k2b, hrn⟩ (fun hHeld => ?_)
    refine wpAnyH_take (i := 0) (oi := ⟨some 30, _, _, _, _, _⟩) (v := ?v517) rfl (by kernel_rfl) (by kernel_rfl) (by kernel_rfl) (fun _ _ _ h => h) (Or.inl ⟨by rfl, ?y517⟩) (by assumption) ?r517
    case y517 =>
      intro w hSw; obtain ⟨hSw, hSw2⟩ := hSw
      go_simp
      try with_reducible rfl
    simp only [Act.put, List.setIfInBounds_toArray, List.set_cons_zero, List.set_cons_succ]
    refine wpAnyH_take (i := 1) (oi := ⟨some 31, _, _, _, _, _⟩) (v := ?v518) rfl (by kernel_rfl) (by kernel_rfl) (by kernel_rfl) (fun _ _ _ h => h) (Or.inl ⟨by rfl, ?y518⟩) (by assumption) ?r518
    case y518 =>
      intro w hSw; obtain ⟨hSw, hSw2⟩ := hSw
      go_simp
      try with_reducible rfl
    simp only [Act.put, List.setIfInBounds_toArray, List.set_cons_zero, List.set_cons_succ]
    refine wpAnyH_take (i := 2) (oi := ⟨some 32, _, _, _, _, _⟩) (v := ?v519) rfl (by kernel_rfl) (by kernel_rfl) (by kernel_rfl) (fun _ _ _ h => h) (Or.inl ⟨by rfl, ?y519⟩) (by assumption) ?r519
    case y519 =>
      intro w hSw; obtain ⟨hSw, hSw2⟩ := hSw
      go_simp
      try with_reducible rfl
    simp only [Act.put, List.setIfInBounds_toArray, List.set_cons_zero, List.set_cons_succ]
    refine wpAnyH_take (i := 3) (oi := ⟨some 33, _, _, _, _, _⟩) (v := ?v520) rfl (by kernel_rfl) (by kernel_rfl) (by kernel_rfl) (fun _ _ _ h => h) (Or.inl ⟨by rfl, ?y520⟩) (by assumption) ?r520
    case y520 =>
      intro w hSw; obtain ⟨hSw, hSw2⟩ := hSw
      go_simp
      try with_reducible rfl
    simp only [Act.put, List.setIfInBounds_toArray, List.set_cons_zero, List.set_cons_succ]
    refine wpAnyH_take (i := 4) (oi := ⟨some 34, _, _, _, _, _⟩) (v := ?v521) rfl (by kernel_rfl) (by kernel_rfl) (by kernel_rfl) (fun _ _ _ h => h) (Or.inl ⟨by rfl, ?y521⟩) (by assumption) ?r521
    case y521 =>
      intro w hSw; obtain ⟨hSw, hSw2⟩ := hSw
      go_simp
      try with_reducible rfl
    simp only [Act.put, List.setIfInBounds_toArray, List.set_cons_zero, List.set_cons_succ]
    refine wpAnyH_take (i := 5) (oi := ⟨some 35, _, _, _, _, _⟩) (v := _) rfl (by kernel_rfl) (by kernel_rfl) (by kernel_rfl) (fun _ _ _ h => h) (yieldsIf_load_mid (by rfl) _ _ rfl _ _ rfl _ _ (fun w hSw => hSw.2) hu rfl hi61) (by assumption) ?_
    simp only [Act.put, List.setIfInBounds_toArray, List.set_cons_zero, List.set_cons_succ]
    refine wpAnyH_ready (rs := [6]) (by kernel_rfl) (by simp) ?_
    refine AllReadyH.cons (o := ⟨none, _, _, _, _, _⟩) rfl (fun K hK => ?_) AllReadyH.nil
    refine step_mapUpdate (by rfl) _ _ _ _ (by rfl) 3 66 intK Try.underlying60 secR mb st.cache.length (mapOf st.cache) (by rfl) hmb (by simp only [maxLen]; omega) _ _ (keyL i) (by rfl) (by rfl) (keyI i (by omega)) (secD zs) [] (secR_mk zs) ?_
    intro W4 hown4 hgrow4
    refine hK.out _ _ ?_ (fun hHeld => ?_)
    · exact ⟨(World.cell?_of_block (a := ⟨db, 2, none⟩) (hgrow4.block db hlt3 (fun e => h.ne2 (by injection e)))).trans k2b, rangeAt_of_block' (hgrow4.block nb hnb3 (fun e => hnm (by injection e))) hrn⟩
    clear hK K
    refine wpAnyH_done (by kernel_rfl) ?_ _
    refine NoPanic.normal ?_
    have hfin := HG.out W4 ⟨hgrow4.os, hgrow4.tape, hgrow4.output, hgrow4.size, hgrow4.block⟩ hown4
    clear HG
    go_wp2
    go_ret
    refine doesIn_mk hfin.1 ((moves_of_below (F := F) (by rw [HNB.out]; exact HB2.out)).trans hfin.2 (fun _ e => .inl e)) f0 f1 f2 ?_ (by rw [HNB.out]; exact f4)
    intro k hk
    have hk' : gg = k := by simpa [Value.ownBlock] using hk
    subst hk'
    rw [HNB.out]
    exact hat.elim (fun e => .inl (f3 _ e)) (fun e => .inr (by omega))

end Go.Proofs.Ytdmkkfpbgpijjaa
namespace Go.Proofs.Ytdmkkfpbgpijjaa
open Go.RowKit Go.Deep Go.Maps
set_option linter.unusedVariables false

/-- A log and its disk, its blocks told. -/
structure LogIn (w : World) (lb db sb mb : Nat) (cv : Value) (N : Nat) (st : St) (lg : LogD) : Prop where
  log : LI5 w (· = lb) lb db lg
  disk : DiskIn w db sb mb cv N st
  n0 : lb ≠ db
  n1 : lb ≠ sb
  n2 : lb ≠ mb
  n3 : cv.ownBlock ≠ some lb
/-- The blocks that such a call turns. -/
def FW (lb db sb mb : Nat) (cv : Value) (k : Nat) : Prop := k = lb ∨ k = db ∨ k = sb ∨ k = mb ∨ cv.ownBlock = some k
def FWd (db sb mb : Nat) (cv : Value) (k : Nat) : Prop := k = db ∨ k = sb ∨ k = mb ∨ cv.ownBlock = some k
theorem LogIn.below {w w' : World} {lb db sb mb : Nat} {cv : Value} {N : Nat} {st : St} {lg : LogD} (h : LogIn w lb db sb mb cv N st lg) (hb : Below w.heap.size w w') : LogIn w' lb db sb mb cv N st lg :=
  ⟨h.log.block (hb.block lb h.log.lt) hb.size, h.disk.below hb, h.n0, h.n1, h.n2, h.n3⟩
theorem LogIn.fwd {w : World} {lb db sb mb : Nat} {cv : Value} {N : Nat} {st : St} {lg : LogD} (h : LogIn w lb db sb mb cv N st lg) : ¬ FWd db sb mb cv lb := by
  rintro (e | e | e | e)
  · exact h.n0 e
  · exact h.n1 e
  · exact h.n2 e
  · exact h.n3 e
def WSays (lb db sb mb : Nat) (cv : Value) (N : Nat) (st : St) (lg : LogD) (w : World) (e : Ending) (w' : World) : Prop :=
  e = .returned (.tuple #[]) ∧ (∃ cv', LogIn w' lb db sb mb cv' N st lg ∧ ∀ k, cv'.ownBlock = some k → cv.ownBlock = some k ∨ w.heap.size ≤ k) ∧ Moves (FW lb db sb mb cv) w w'
/-- What holds once the sector is laid in a box. -/
structure WT (w : World) (lb db sb mb : Nat) (cv : Value) (N : Nat) (st : St) (next first sure : Nat) (A : Option Addr) (l c : Nat) (zs : List Int) (beg : Bool) (W : World) : Prop where
  log : LogIn W lb db sb mb cv N st ⟨next, first, sure⟩
  g : Good A c zs W
  x0 : W.cell? ⟨w.heap.size, 0, none⟩ = some (.int .i64 next)
  x1 : W.cell? ⟨w.heap.size, 1, none⟩ = some (.int .i64 first)
  x2 : W.cell? ⟨w.heap.size, 2, none⟩ = some (.bool beg)
  x3 : W.cell? ⟨w.heap.size, 3, none⟩ = some (.slice A l c)
  b : Below w.heap.size w W
  lt : w.heap.size < W.heap.size
theorem WT.below {w : World} {lb db sb mb : Nat} {cv : Value} {N : Nat} {st : St} {next first sure : Nat} {A : Option Addr} {l c : Nat} {zs : List Int} {beg : Bool} {W W' : World} (h : WT w lb db sb mb cv N st next first sure A l c zs beg W) (hb : Below W.heap.size W W') : WT w lb db sb mb cv N st next first sure A l c zs beg W' :=
  ⟨h.log.below hb, h.g.below hb, (hb.cell (p := ⟨w.heap.size, 0, none⟩) h.lt).trans h.x0, (hb.cell (p := ⟨w.heap.size, 1, none⟩) h.lt).trans h.x1, (hb.cell (p := ⟨w.heap.size, 2, none⟩) h.lt).trans h.x2, (hb.cell (p := ⟨w.heap.size, 3, none⟩) h.lt).trans h.x3, below_more h.b hb (Nat.le_refl _), Nat.lt_of_lt_of_le h.lt hb.size⟩
theorem wt_new {w : World} {lb db sb mb : Nat} {cv : Value} {N : Nat} {st : St} {next first sure : Nat} {A : Option Addr} {l c : Nat} {zs : List Int} {beg : Bool} (h : LogIn w lb db sb mb cv N st ⟨next, first, sure⟩) (g : Good A c zs w) : WT w lb db sb mb cv N st next first sure A l c zs beg (w.alloc (.cells #[.int .i64 next, .int .i64 first, .bool beg, .slice A l c] 72)) := by
  have hb : Below w.heap.size w (w.alloc (.cells #[.int .i64 next, .int .i64 first, .bool beg, .slice A l c] 72)) := (Below.refl _ _).alloc (Nat.le_refl _) _
  have hc : ∀ j, (w.alloc (.cells #[.int .i64 next, .int .i64 first, .bool beg, .slice A l c] 72)).cell? ⟨w.heap.size, j, none⟩ = _ := fun j => cell_of_row _ _ j _ 72 (0, 0) (heap_alloc_new w _)
  exact ⟨h.below hb, g.below hb, (hc 0).trans rfl, (hc 1).trans rfl, (hc 2).trans rfl, (hc 3).trans rfl, hb, by simp⟩
theorem WT.drew {w : World} {lb db sb mb : Nat} {cv : Value} {N : Nat} {st : St} {next first sure : Nat} {A : Option Addr} {l c : Nat} {zs : List Int} {beg : Bool} {W : World} (h : WT w lb db sb mb cv N st next first sure A l c zs beg W) : WT w lb db sb mb cv N st next first sure A l c zs beg W.drew := h.below (below_drewN (Below.refl _ _) 1)
set_option maxRecDepth 100000 in
set_option maxHeartbeats 2000000 in
theorem writeSec_any (lb db sb mb : Nat) (cv : Value) (N : Nat) (st : St) (next first sure : Nat) (A : Option Addr) (l c : Nat) (zs : List Int) (beg : Bool) (w : World) (h : LogIn w lb db sb mb cv N st ⟨next, first, sure⟩) (hl : zs.length = l) (h16 : l ≤ 16) (hz : isBytes zs) (g : Good A c zs w) (hn1 : 1 ≤ next) (hn : next < 4294967296) (hf : first < 4294967296) (hc : st.cache.length ≤ 999) :
    Calls Try.prog 33 #[.pointer (some ⟨lb, 0, none⟩), .slice A l c, .bool beg] w (WSays lb db sb mb cv N (writeS st (placeOf N next) (secL ⟨next, first, zs, beg⟩)) ⟨next + 1, first, sure⟩ w) := by
  have c0 := h.log.c0
  have c1 := h.log.c1
  have c2 := h.log.c2
  simp only at c1 c2
  obtain ⟨hN1, hN2⟩ : 1 ≤ N ∧ N ≤ 512 := ⟨h.disk.n1, h.disk.n2⟩
  have ok : okS ⟨next, first, zs, beg⟩ := ⟨hn, hf, by show zs.length ≤ 16; omega, hz⟩
  have HL := Lib.hid hl
  have HH := Lib.hid h
  have HG := Lib.hid g
  have HOK := Lib.hid ok
  have hlb := h.log.lt
  clear hl hz g ok h
  go_enter Try.func33, Try.ntmps33
  go_wp2
  go_region
  refine cutW (wt_new (l := l) (beg := beg) HH.out HG.out).drew ?_
  intro W1 h1
  have H1 := Lib.hid h1.drew
  have p0 := h1.log.log.c0
  have p1 := h1.x0
  have p2 := h1.x1
  have p3 := h1.x2
  have p4 := h1.x3
  obtain ⟨q, hq⟩ : ∃ q, placeOf N next = q := ⟨_, rfl⟩
  have cP := fun W => place_any next N q hn1 (by omega) hN1 hN2 hq W
  have cS := fun W (hW : WT w lb db sb mb cv N st next first sure A l c zs beg W) => sectors_any db sb N W hW.log.disk.c0
  have cB := fun W (hW : WT w lb db sb mb cv N st next first sure A l c zs beg W) => bytes_any ⟨next, first, zs, beg⟩ A c l HL.out HOK.out W hW.g
  simp only at cB
  have hqN : q < N := by rw [← hq]; exact placeOf_lt _ _ hN1
  have cW := fun W (hW : WT w lb db sb mb cv N st next first sure A l c zs beg W) (Ab : Option Addr) (cb : Nat) (gb : Good Ab cb (secL ⟨next, first, zs, beg⟩) W) => write_in (FWd db sb mb cv) db sb mb cv N q st Ab cb (secL ⟨next, first, zs, beg⟩) W hW.log.disk (.inl rfl) (.inr (.inl rfl)) (.inr (.inr (.inl rfl))) (fun k hk => .inr (.inr (.inr hk))) (by
    rintro k (e | e | e | e)
    · rw [e]; exact hW.log.disk.lt0
    · rw [e]; exact hW.log.disk.lt1
    · rw [e]; exact hW.log.disk.map.lt
    · exact (hW.log.disk.row.lt k e).2) hqN (secL_length HOK.out) gb hc
  have hnw : ¬ FWd db sb mb cv w.heap.size := by
    rintro (e | e | e | e)
    · have := HH.out.disk.lt0; omega
    · have := HH.out.disk.lt1; omega
    · have := HH.out.disk.map.lt; omega
    · have := (HH.out.disk.row.lt _ e).2; omega
  have HK := Lib.hid (show ∀ V V2 : World, WT w lb db sb mb cv N st next first sure A l c zs beg V → Moves (FWd db sb mb cv) V V2 → V2.cell? ⟨lb, 0, none⟩ = some (.pointer (some ⟨db, 0, none⟩)) ∧ V2.cell? ⟨w.heap.size, 0, none⟩ = some (.int .i64 next) ∧ V2.cell? ⟨w.heap.size, 1, none⟩ = some (.int .i64 first) ∧ V2.cell? ⟨w.heap.size, 2, none⟩ = some (.bool beg) ∧ V2.cell? ⟨w.heap.size, 3, none⟩ = some (.slice A l c) from fun V V2 hv hm => by
    have e0 := hm.block lb hv.log.log.lt hv.log.fwd
    have e1 := hm.block w.heap.size hv.lt hnw
    exact ⟨(World.cell?_of_block (a := ⟨lb, 0, none⟩) e0).trans hv.log.log.c0, (World.cell?_of_block (a := ⟨w.heap.size, 0, none⟩) e1).trans hv.x0, (World.cell?_of_block (a := ⟨w.heap.size, 1, none⟩) e1).trans hv.x1, (World.cell?_of_block (a := ⟨w.heap.size, 2, none⟩) e1).trans hv.x2, (World.cell?_of_block (a := ⟨w.heap.size, 3, none⟩) e1).trans hv.x3⟩)
  have HQ := Lib.hid hq
  have HLN := Lib.hid (secL_length HOK.out)
  clear hq h1 c0 c1 c2
  go_wp2_with fail
  go_region_held3 (fun W => W.cell? ⟨lb, 0, none⟩ = some (.pointer (some ⟨db, 0, none⟩)) ∧ W.cell? ⟨w.heap.size, 0, none⟩ = some (.int .i64 next) ∧ W.cell? ⟨w.heap.size, 1, none⟩ = some (.int .i64 first) ∧ W.cell? ⟨w.heap.size, 2, none⟩ = some (.bool beg) ∧ W.cell? ⟨w.heap.size, 3, none⟩ = some (.slice A l c))
    (first | exact ⟨p0, p1, p2, p3, p4⟩ | assumption)
    (first
    | (go_at_call 36; (with_reducible refine (cS _ (by first | exact H1.out | exact hV)).mono ?_); rintro e w' ⟨rfl, rfl⟩)
    | (go_at_call 41; (with_reducible refine (cP _).mono ?_); rintro e w' ⟨rfl, rfl⟩)
    | (go_at_call 46; (with_reducible refine (cB _ H1.out).mono ?_); rintro e V ⟨vb, rfl, ob, bb⟩; obtain ⟨Ab, cb, rfl, gb⟩ := ob.good; rw [HLN.out]; have hV := H1.out.below bb; have hS : V.cell? ⟨lb, 0, none⟩ = some (.pointer (some ⟨db, 0, none⟩)) ∧ V.cell? ⟨w.heap.size, 0, none⟩ = some (.int .i64 next) ∧ V.cell? ⟨w.heap.size, 1, none⟩ = some (.int .i64 first) ∧ V.cell? ⟨w.heap.size, 2, none⟩ = some (.bool beg) ∧ V.cell? ⟨w.heap.size, 3, none⟩ = some (.slice A l c) := ⟨hV.log.log.c0, hV.x0, hV.x1, hV.x2, hV.x3⟩)
    | (go_at_call 45; (with_reducible refine (cW _ hV Ab cb gb).mono ?_); rintro e V2 ⟨rfl, ⟨cv', hd', ho'⟩, hm'⟩; have hS2 : V2.cell? ⟨lb, 0, none⟩ = some (.pointer (some ⟨db, 0, none⟩)) ∧ V2.cell? ⟨w.heap.size, 0, none⟩ = some (.int .i64 next) ∧ V2.cell? ⟨w.heap.size, 1, none⟩ = some (.int .i64 first) ∧ V2.cell? ⟨w.heap.size, 2, none⟩ = some (.bool beg) ∧ V2.cell? ⟨w.heap.size, 3, none⟩ = some (.slice A l c) := HK.out V V2 hV hm'))
  have hli := hV.log.log.block (hm'.block lb hV.log.log.lt hV.log.fwd) hm'.size
  have HLI := Lib.hid hli
  have HD := Lib.hid hd'
  have HO := Lib.hid ho'
  have HM := Lib.hid hm'
  have HV := Lib.hid hV
  have k1 := hli.c1
  have kf := hli.f1
  have hnx : next ≤ 4294967296 := by omega
  simp only at k1
  clear hli hd' ho' hm' hV hS hS2 cP cS cB cW p0 p1 p2 p3 p4 ob bb gb
  go_wp2
  go_end0
  have hd := HD.out
  have hv := HV.out
  have hol : cv'.ownBlock ≠ some lb := fun e => (HO.out lb e).elim hv.log.fwd (fun x => by have := hv.log.log.lt; omega)
  have hm2 : Moves (· = lb) V2 (V2.setCell ⟨lb, 1, none⟩ (.int .i64 ((next : Int) + 1))) := moves_setCell _ _ _ _ rfl
  have hset := li5_set1 HLI.out (next + 1)
  rw [show ((next + 1 : Nat) : Int) = (next : Int) + 1 by omega] at hset
  refine ⟨rfl, ⟨cv', ⟨hset, ?_, hv.log.n0, hv.log.n1, hv.log.n2, hol⟩, fun k hk => ?_⟩, ?_⟩
  · rw [HQ.out]
    exact hd.kept hm2.size (hm2.block _ hd.lt0 (Ne.symm hv.log.n0)) (hm2.block _ hd.lt1 (Ne.symm hv.log.n1)) (hm2.block _ hd.map.lt (Ne.symm hv.log.n2)) (fun k hk => hm2.block k (hd.row.lt k hk).2 (fun e => hol (e ▸ hk)))
  · rcases HO.out k hk with (e | e | e | e) | e
    · exact absurd (e ▸ hk) hd.ne4
    · exact absurd (e ▸ hk) hd.ne5
    · exact absurd (e ▸ hk) hd.ne6
    · exact .inl e
    · exact .inr (Nat.le_trans hv.b.size e)
  · exact ((moves_of_below (F := FW lb db sb mb cv) hv.b).trans (HM.out.mono (F' := FW lb db sb mb cv) (fun k hk => Or.inr hk)) (fun _ x => .inl x)).trans (hm2.mono (F' := FW lb db sb mb cv) (fun k hk => Or.inl hk)) (fun _ x => .inl x)
end Go.Proofs.Ytdmkkfpbgpijjaa
namespace Go.Proofs.Ytdmkkfpbgpijjaa
open Go.RowKit Go.Shelf Go.Deep Go.Maps

attribute [local go_sem] Oper.semAt_some
set_option linter.unusedVariables false

/-- The sectors of the chunks at such places, one behind the other. -/
def secsP (next first : Nat) (b : List Int) (pre : List Nat) : List Sec := pre.zipIdx.map fun p => ⟨next + p.2, first, (b.drop (16 * p.1)).take 16, p.2 == 0⟩
theorem secsP_snoc (next first : Nat) (b : List Int) (pre : List Nat) (x : Nat) : secsP next first b (pre ++ [x]) = secsP next first b pre ++ [⟨next + pre.length, first, (b.drop (16 * x)).take 16, pre.length == 0⟩] := by
  simp [secsP, List.zipIdx_append]
theorem secsP_range (next first : Nat) (b : List Int) (m : Nat) : secsP next first b (List.range m) = (List.range m).map (layAt next first b) := by
  induction m with
  | zero => rfl
  | succ m ih => rw [List.range_succ, secsP_snoc, ih, List.map_append, List.length_range]; rfl
theorem secsP_lay (next first : Nat) (b : List Int) : secsP next first b (List.range (secsN b)) = laySecs next first b := secsP_range next first b _
theorem secsP_len (next first : Nat) (b : List Int) (pre : List Nat) : (secsP next first b pre).length = pre.length := by simp [secsP]
theorem LogIn.kept {w w' : World} {lb db sb mb : Nat} {cv : Value} {N : Nat} {st : St} {lg : LogD} (h : LogIn w lb db sb mb cv N st lg) (hs : w.heap.size ≤ w'.heap.size) (hb : ∀ k, FW lb db sb mb cv k → w'.heap[k]? = w.heap[k]?) : LogIn w' lb db sb mb cv N st lg :=
  ⟨h.log.block (hb lb (.inl rfl)) hs, h.disk.kept hs (hb _ (.inr (.inl rfl))) (hb _ (.inr (.inr (.inl rfl)))) (hb _ (.inr (.inr (.inr (.inl rfl))))) (fun k hk => hb k (.inr (.inr (.inr (.inr hk))))), h.n0, h.n1, h.n2, h.n3⟩
theorem LogIn.row_cells {w : World} {lb db sb mb : Nat} {cv : Value} {N : Nat} {st : St} {lg : LogD} (h : LogIn w lb db sb mb cv N st lg) (k : Nat) (hk : cv.ownBlock = some k) (o : Obj) (ho : w.heap[k]? = some o) : o.isCells = true := by
  rcases h.disk.row.2 with ⟨rfl, _⟩ | ⟨g, cap, cur, rfl, _, hgb, _⟩
  · cases hk
  · cases hk
    rw [hgb] at ho
    cases ho
    rfl
theorem LogIn.lts {w : World} {lb db sb mb : Nat} {cv : Value} {N : Nat} {st : St} {lg : LogD} (h : LogIn w lb db sb mb cv N st lg) : lb < w.heap.size ∧ db < w.heap.size ∧ sb < w.heap.size ∧ mb < w.heap.size := ⟨h.log.lt, h.disk.lt0, h.disk.lt1, h.disk.map.lt⟩
theorem good_movesG {A : Option Addr} {c : Nat} {zs : List Int} {w w' : World} {G : Nat → Prop} (g : Good A c zs w) (hm : Moves G w w') (hne : ∀ a, A = some a → ¬ G a.block) : Good A c zs w' := by
  refine ⟨fun h0 => ?_, g.2⟩
  obtain ⟨b', off, rfl, hlt, hc⟩ := g.1 h0
  exact ⟨b', off, rfl, Nat.lt_of_lt_of_le hlt hm.size, fun j hj => (World.cell?_of_block (a := ⟨b', off + j, none⟩) (hm.block b' hlt (hne _ rfl))).trans (hc j hj)⟩
/-- Between two rounds. -/
structure RowI (w : World) (lb db sb mb : Nat) (cv : Value) (N : Nat) (st : St) (next first sure : Nat) (zs : List Int) (m : Nat) (pre : List (Pl m)) (W : World) : Prop where
  log : ∃ cv', LogIn W lb db sb mb cv' N ⟨st.safe, st.cache ++ puts N (secsP next first zs (pre.map (·.1)))⟩ ⟨next + pre.length, first, sure⟩ ∧ ∀ k, cv'.ownBlock = some k → cv.ownBlock = some k ∨ w.heap.size + 4 ≤ k
  bl : Boxed W w.heap.size 25 (.pointer (some ⟨lb, 0, none⟩))
  bb : Boxed W (w.heap.size + 1) 4 (.bool (pre.length == 0))
  mv : Moves (FW lb db sb mb cv) w W
  sz : w.heap.size + 4 ≤ W.heap.size
theorem rowI_own {w : World} {lb db sb mb : Nat} {cv : Value} {N : Nat} {st : St} {next first sure : Nat} {zs : List Int} {m : Nat} (h : LogIn w lb db sb mb cv N st ⟨next, first, sure⟩) : OwnFrom (w.heap.size + 4) (RowI w lb db sb mb cv N st next first sure zs m) := by
  intro pre W W' row hI hg hr
  obtain ⟨cv', hl, ho⟩ := hI.log
  obtain ⟨l0, l1, l2, l3⟩ := h.lts
  have hrow : ∀ k, k < w.heap.size + 4 → some k ≠ row := fun k hk e => by have := (hr k e.symm).1; omega
  refine ⟨⟨cv', hl.kept hg.size ?_, ho⟩, hI.bl.kept hg (hrow _ (by omega)), hI.bb.kept hg (hrow _ (by omega)), ?_, Nat.le_trans hI.sz hg.size⟩
  · rintro k (e | e | e | e | e)
    · exact hg.block k (by have := hI.sz; omega) (hrow k (by omega))
    · exact hg.block k (by have := hI.sz; omega) (hrow k (by omega))
    · exact hg.block k (by have := hI.sz; omega) (hrow k (by omega))
    · exact hg.block k (by have := hI.sz; omega) (hrow k (by omega))
    · refine hg.block k (hl.disk.row.lt k e).2 (fun er => ?_)
      obtain ⟨_, o, ho1, ho2⟩ := hr k er.symm
      rw [hl.row_cells k e o ho1] at ho2
      cases ho2
  · exact ⟨hg.os.trans hI.mv.os, hg.tape.trans hI.mv.tape, hg.output.trans hI.mv.output, Nat.le_trans hI.mv.size hg.size, fun k hk hn => (hg.block k (Nat.lt_of_lt_of_le hk hI.mv.size) (hrow k (by omega))).trans (hI.mv.block k hk hn)⟩
/-- A round: the sector is written, and the next one doesn't begin. -/
theorem rowI_step {w : World} {lb db sb mb : Nat} {cv cv' cv'' : Value} {N : Nat} {st : St} {next first sure : Nat} {zs : List Int} {m : Nat} {pre : List (Pl m)} {x : Pl m} {W W' : World} (h : LogIn w lb db sb mb cv N st ⟨next, first, sure⟩) (hI : RowI w lb db sb mb cv N st next first sure zs m pre W)
    (hl : LogIn W lb db sb mb cv' N ⟨st.safe, st.cache ++ puts N (secsP next first zs (pre.map (·.1)))⟩ ⟨next + pre.length, first, sure⟩) (ho : ∀ k, cv'.ownBlock = some k → cv.ownBlock = some k ∨ w.heap.size + 4 ≤ k)
    (hl' : LogIn W' lb db sb mb cv'' N (writeS ⟨st.safe, st.cache ++ puts N (secsP next first zs (pre.map (·.1)))⟩ (placeOf N (next + pre.length)) (secL ⟨next + pre.length, first, (zs.drop (16 * x.1)).take 16, pre.length == 0⟩)) ⟨next + pre.length + 1, first, sure⟩) (ho' : ∀ k, cv''.ownBlock = some k → cv'.ownBlock = some k ∨ W.heap.size ≤ k) (hm : Moves (FW lb db sb mb cv') W W') :
    KeepsFrom (w.heap.size + 4) W (W'.setCell ⟨w.heap.size + 1, 0, none⟩ (.bool false)) ∧ KP (w.heap.size + 2) (w.heap.size + 3) W (W'.setCell ⟨w.heap.size + 1, 0, none⟩ (.bool false)) ∧ RowI w lb db sb mb cv N st next first sure zs m (pre ++ [x]) (W'.setCell ⟨w.heap.size + 1, 0, none⟩ (.bool false)) := by
  obtain ⟨l0, l1, l2, l3⟩ := h.lts
  have hsz := hI.sz
  have hm2 : Moves (· = w.heap.size + 1) W' (W'.setCell ⟨w.heap.size + 1, 0, none⟩ (.bool false)) := moves_setCell _ _ _ _ rfl
  have hs2 : (W'.setCell ⟨w.heap.size + 1, 0, none⟩ (.bool false)).heap.size = W'.heap.size := by simp
  have hs3 := hm.size
  have hold : ∀ k, cv.ownBlock = some k → k < w.heap.size := fun k hk => (h.disk.row.lt k hk).2
  have hnf : ∀ k, w.heap.size ≤ k → k < w.heap.size + 4 → ¬ FW lb db sb mb cv' k := by
    rintro k h1 h2 (e | e | e | e | e)
    · omega
    · omega
    · omega
    · omega
    · rcases ho k e with y | y
      · have := hold k y; omega
      · omega
  have hkeep : ∀ k, w.heap.size ≤ k → k < w.heap.size + 4 → k ≠ w.heap.size + 1 → (W'.setCell ⟨w.heap.size + 1, 0, none⟩ (.bool false)).heap[k]? = W.heap[k]? := fun k h1 h2 h3 =>
    (hm2.block k (by omega) h3).trans (hm.block k (by omega) (hnf k h1 h2))
  refine ⟨⟨by omega, fun k o hk hko hno => ?_⟩, ⟨hkeep _ (by omega) (by omega) (by omega), hkeep _ (by omega) (by omega) (by omega)⟩, ⟨⟨cv'', ?_, ?_⟩, ?_, ?_, ?_, by omega⟩⟩
  · have hkl : k < W.heap.size := (Array.getElem?_eq_some_iff.1 hko).1
    rw [hm2.block k (by omega) (by show ¬ k = w.heap.size + 1; omega), hm.block k hkl ?_]
    · exact hko
    · rintro (e | e | e | e | e)
      · omega
      · omega
      · omega
      · omega
      · rw [hl.row_cells k e o hko] at hno; cases hno
  · have e1 : (⟨st.safe, st.cache ++ puts N (secsP next first zs ((pre ++ [x]).map (·.1)))⟩ : St) = writeS ⟨st.safe, st.cache ++ puts N (secsP next first zs (pre.map (·.1)))⟩ (placeOf N (next + pre.length)) (secL ⟨next + pre.length, first, (zs.drop (16 * x.1)).take 16, pre.length == 0⟩) := by
      unfold writeS
      rw [List.map_append, List.map_cons, List.map_nil, secsP_snoc, puts_append, List.length_map]
      simp [puts]
    have e2 : next + (pre ++ [x]).length = next + pre.length + 1 := by rw [List.length_append]; rfl
    rw [e1, e2]
    refine hl'.kept hm2.size ?_
    rintro k (e | e | e | e | e)
    · exact hm2.block k (by omega) (by show ¬ k = w.heap.size + 1; omega)
    · exact hm2.block k (by omega) (by show ¬ k = w.heap.size + 1; omega)
    · exact hm2.block k (by omega) (by show ¬ k = w.heap.size + 1; omega)
    · exact hm2.block k (by omega) (by show ¬ k = w.heap.size + 1; omega)
    · refine hm2.block k (hl'.disk.row.lt k e).2 ?_
      show ¬ k = w.heap.size + 1
      rcases ho' k e with y | y
      · rcases ho k y with z | z
        · have := hold k z; omega
        · omega
      · omega
  · intro k e
    rcases ho' k e with y | y
    · exact ho k y
    · exact .inr (by omega)
  · exact (hkeep _ (by omega) (by omega) (by omega)).trans hI.bl
  · have hb : Boxed W' (w.heap.size + 1) 4 (.bool (pre.length == 0)) := (hm.block _ (by omega) (hnf _ (by omega) (by omega))).trans hI.bb
    have hx : ((pre ++ [x]).length == 0) = false := by simp
    rw [hx]
    exact hb.set _
  · refine (hI.mv.trans (hm.mono (F' := fun k => FW lb db sb mb cv k ∨ w.heap.size ≤ k) ?_) (fun i hi => hi)).trans (hm2.mono (F' := fun k => w.heap.size ≤ k) (fun k hk => by show w.heap.size ≤ k; omega)) (fun i hi => .inr hi)
    rintro k (e | e | e | e | e)
    · exact .inl (.inl e)
    · exact .inl (.inr (.inl e))
    · exact .inl (.inr (.inr (.inl e)))
    · exact .inl (.inr (.inr (.inr (.inl e))))
    · rcases ho k e with y | y
      · exact .inl (.inr (.inr (.inr (.inr y))))
      · exact .inr (by omega)

theorem rowI_box {w : World} {lb db sb mb : Nat} {cv cv' : Value} {N : Nat} {st : St} {lg : LogD} {W W' : World} {v : Value} {t : TypeId} (h : LogIn w lb db sb mb cv N st lg) (hsz : w.heap.size + 4 ≤ W.heap.size) (ho : ∀ k, cv'.ownBlock = some k → cv.ownBlock = some k ∨ w.heap.size + 4 ≤ k) (hb : Boxed W (w.heap.size + 1) t v) (hm : Moves (FW lb db sb mb cv') W W') : Boxed W' (w.heap.size + 1) t v := by
  obtain ⟨l0, l1, l2, l3⟩ := h.lts
  refine (hm.block _ (by omega) ?_).trans hb
  rintro (e | e | e | e | e)
  · omega
  · omega
  · omega
  · omega
  · rcases ho _ e with y | y
    · have := (h.disk.row.lt _ y).2; omega
    · omega

def RowSays (lb db sb mb : Nat) (cv : Value) (N : Nat) (st : St) (lg : LogD) (w : World) (e : Ending) (w' : World) : Prop :=
  e = .returned (.tuple #[]) ∧ (∃ cv', LogIn w' lb db sb mb cv' N st lg ∧ ∀ k, cv'.ownBlock = some k → cv.ownBlock = some k ∨ w.heap.size ≤ k) ∧ Moves (FW lb db sb mb cv) w w'
set_option maxRecDepth 100000 in
set_option maxHeartbeats 2000000 in
theorem writeRow_in (n : Nat) (hn : 4 ≤ n) (lb db sb mb : Nat) (cv : Value) (N : Nat) (st : St) (next first sure : Nat) (A : Option Addr) (len cap : Nat) (zs : List Int) (w : World) (h : LogIn w lb db sb mb cv N st ⟨next, first, sure⟩) (hl : zs.length = len) (hl2 : len ≤ 8000) (hz : isBytes zs) (g : Good A cap zs w) (hA : ∀ a, A = some a → ¬ FW lb db sb mb cv a.block)
    (hn1 : 1 ≤ next) (hnx : next + secsN zs ≤ 4294967296) (hf : first ≤ next) (hc : st.cache.length + secsN zs ≤ 999) :
    CallsIn Fence.wide n Try.prog 24 #[.pointer (some ⟨lb, 0, none⟩), .slice A len cap] w (RowSays lb db sb mb cv N ⟨st.safe, st.cache ++ puts N (laySecs next first zs)⟩ ⟨next + secsN zs, first, sure⟩ w) := by
  have hro : Fence.wide.round = none := rfl
  have hn1' : 1 ≤ n := by omega
  obtain ⟨m, hm⟩ : ∃ m, secsN zs = m := ⟨_, rfl⟩
  have hm2 : (len + 15) / 16 = m := by rw [← hm, ← hl]; rfl
  rw [hm] at hnx hc ⊢
  have hcap : len ≤ cap := by have := g.2.1; omega
  have hsome : 0 < len → ∃ b off, A = some ⟨b, off, none⟩ := fun h0 => g.some (by omega)
  refine callsIn_of_wp_marks Try.func24 rfl trivial ?_ hro
  simp only [Try.ntmps24, List.size_toArray, List.length_cons, List.length_nil, Nat.reduceAdd, Nat.reduceSub, Array.replicate_succ, Array.replicate_zero, List.push_toArray, List.append_toArray, List.nil_append, List.cons_append]
  gi_wp2_with fail
  refine ⟨trivial, ?_⟩
  refine (chunk_in Fence.wide (n - 1) trivial hro _ _ _ _).mono ?_
  rintro e w' ⟨rfl, rfl⟩
  gi_wp2_with fail
  have e0 := Boxed.new w 25 (.pointer (some ⟨lb, 0, none⟩))
  have e1 := Boxed.new (w.alloc (.cells #[.pointer (some ⟨lb, 0, none⟩)] 25)) 4 (.bool true)
  have e2 := Boxed.new ((w.alloc (.cells #[.pointer (some ⟨lb, 0, none⟩)] 25)).alloc (.cells #[.bool true] 4)) 52 (.slice A len cap)
  have e3 := Boxed.new (((w.alloc (.cells #[.pointer (some ⟨lb, 0, none⟩)] 25)).alloc (.cells #[.bool true] 4)).alloc (.cells #[.slice A len cap] 52)) 3 (.int .i64 16)
  simp only [World.size_alloc] at e1 e2 e3
  have d0 := ((e0.alloc (.cells #[.bool true] 4)).alloc (.cells #[.slice A len cap] 52)).alloc (.cells #[.int .i64 16] 3)
  have d1 := (e1.alloc (.cells #[.slice A len cap] 52)).alloc (.cells #[.int .i64 16] 3)
  have d2 := e2.alloc (.cells #[.int .i64 16] 3)
  have hB0 : Below w.heap.size w ((((w.alloc (.cells #[.pointer (some ⟨lb, 0, none⟩)] 25)).alloc (.cells #[.bool true] 4)).alloc (.cells #[.slice A len cap] 52)).alloc (.cells #[.int .i64 16] 3)) :=
    ((((Below.refl _ w).alloc (Nat.le_refl _) _).alloc (by simp) _).alloc (by simp; omega) _).alloc (by simp; omega) _
  have hsz : ((((w.alloc (.cells #[.pointer (some ⟨lb, 0, none⟩)] 25)).alloc (.cells #[.bool true] 4)).alloc (.cells #[.slice A len cap] 52)).alloc (.cells #[.int .i64 16] 3)).heap.size = w.heap.size + 4 := by simp
  clear e0 e1 e2
  generalize ((((w.alloc (.cells #[.pointer (some ⟨lb, 0, none⟩)] 25)).alloc (.cells #[.bool true] 4)).alloc (.cells #[.slice A len cap] 52)).alloc (.cells #[.int .i64 16] 3)) = W0 at *
  have hI0 : RowI w lb db sb mb cv N st next first sure zs m [] W0 := by
    refine ⟨⟨cv, ?_, fun k hk => .inl hk⟩, d0, d1, moves_of_below hB0, by omega⟩
    have := h.below hB0
    simpa [secsP, puts] using this
  refine wpIn_rangeFunc_ownG hro hn1' (gf := 48) (lb := #[.pointer (some ⟨w.heap.size + 1 + 1, 0, none⟩), .pointer (some ⟨w.heap.size + 1 + 1 + 1, 0, none⟩)]) rfl trivial (enters_of Try.func48 (by kernel_rfl) rfl)
    (chunk_stops Fence.wide (n - 1) trivial hro (by omega) (w.heap.size + 1 + 1) (w.heap.size + 1 + 1 + 1) cap len m A (by omega) hcap hm2 hsome W0 (by omega) (by omega) d2.cell e3.cell) KP.trans (kp_b (by omega) (by omega)) (Below.refl _ _) (fun _ => rfl)
    (RowI w lb db sb mb cv N st next first sure zs m) (fun _ _ _ => False) (by rw [hsz]; exact rowI_own h) (fun _ _ _ _ _ hs _ _ => hs) hI0
    (fun x => { tmps := #[.pointer (some ⟨lb, 0, none⟩), .slice A len cap, .pointer (some ⟨w.heap.size, 0, none⟩), undef, .pointer (some ⟨w.heap.size + 1, 0, none⟩), chunkV A len x.1, .slice A len cap, .func (.func 48) #[] #[.pointer (some ⟨w.heap.size + 1 + 1, 0, none⟩), .pointer (some ⟨w.heap.size + 1 + 1 + 1, 0, none⟩)], chunkV A len x.1, undef, undef, undef, undef], defers := [] }) ?assign ?body ?done ?stop
  case assign =>
    intro l x W K hK
    generalize chunkV A len x.1 = z at *
    gi_wp2
    exact hK
  case body =>
    rintro l pre x W hI hlt
    obtain ⟨cv', hlog, hown⟩ := hI.log
    have hx := x.2
    have hxl : 16 * x.1 < len := by omega
    obtain ⟨b, off, rfl⟩ := hsome (by omega)
    have gW := good_movesG g hI.mv hA
    have gx : Good (some ⟨b, off + 16 * x.1, none⟩) (min 16 (len - 16 * x.1)) ((zs.drop (16 * x.1)).take 16) W := by
      have := (gW.drop (16 * x.1) (by omega)).take 16
      exact ⟨this.1, by rw [List.length_take, List.length_drop, hl]; exact Nat.le_refl _, fun e => by cases e⟩
    have hlx : ((zs.drop (16 * x.1)).take 16).length = min 16 (len - 16 * x.1) := by rw [List.length_take, List.length_drop, hl]
    have cW := writeSec_any lb db sb mb cv' N _ (next + pre.length) first sure (some ⟨b, off + 16 * x.1, none⟩) (min 16 (len - 16 * x.1)) (min 16 (len - 16 * x.1)) _ (pre.length == 0) W hlog hlx (by omega) ((hz.drop _).take _) gx (by omega) (by omega) (by omega) (by
      show (st.cache ++ puts N (secsP next first zs (pre.map (·.1)))).length ≤ 999
      rw [List.length_append, puts_length, secsP_len, List.length_map]; omega)
    have hstep := Lib.hid (fun (W' : World) (cv'' : Value) a1 a2 a3 => rowI_step (x := x) (W' := W') (cv'' := cv'') h hI hlog hown a1 a2 a3)
    have k0 := hI.bl.cell
    have k1 := hI.bb.cell
    have hbb := Lib.hid hI
    have hsz1 := hI.sz
    unfold chunkV
    simp only [Option.map_some]
    generalize min 16 (len - 16 * x.1) = ee at *
    have hbx := Lib.hid hI.bb
    generalize (pre.length == 0) = pl at *
    clear k1
    have k1 := hbx.out.cell
    have hbox := Lib.hid (fun (W' : World) (hm : Moves (FW lb db sb mb cv') W W') => rowI_box h hsz1 hown hbx.out hm)
    gi_wp2_with fail
    refine ⟨trivial, (fun _ => by omega), ?_⟩
    refine (CallsIn.inRound l (callsIn_wide.2 cW)).mono ?_
    clear cW
    rintro e W' ⟨rfl, ⟨cv'', hl2', ho2'⟩, hm2'⟩
    have hb' := hbox.out W' hm2'
    have k2 := hb'.cell
    have k3 := hb'.frozen
    have hfin := Lib.hid (hstep.out W' cv'' hl2' ho2' hm2')
    clear hl2' ho2' hm2' hb' hbox hstep
    gi_wp2
    rw [hsz]
    exact hfin.out
  case done =>
    rintro D ys W hD hys hI hK
    rw [hsz] at hD
    have hI2 := (rowI_own (zs := zs) (m := m) h).putObj (.deferred none) hI hD hK rfl
    have hyl : ys.length = m := by
      have := congrArg List.length hys
      rwa [List.length_map, List.length_range] at this
    gi_wp2
    refine ⟨by simp, .inl ⟨_, _, rfl, run_takeDeferred hK, ?_⟩⟩
    refine ⟨_, results_none rfl _ _ _, rfl, ?_, hI2.mv⟩
    obtain ⟨cv', hl', ho'⟩ := hI2.log
    rw [hys, hyl, ← hm, secsP_lay] at hl'
    rw [hm] at hl'
    exact ⟨cv', hl', fun k hk => (ho' k hk).elim .inl (fun y => .inr (by omega))⟩
  case stop =>
    rintro D c pre W _ _ h _
    exact h.elim
end Go.Proofs.Ytdmkkfpbgpijjaa
namespace Go.Proofs.Ytdmkkfpbgpijjaa
open Go.RowKit Go.Deep Go.Maps
set_option linter.unusedVariables false

theorem LI5.own {w : World} {F : Nat → Prop} {lb db : Nat} {lg : LogD} (h : LI5 w F lb db lg) : LI5 w (· = lb) lb db lg := ⟨h.lt, rfl, fun k hk => hk, h.c0, h.c1, h.c2, h.c3, h.f1, h.f2, h.f3, h.sf⟩
theorem LI5.as {w w' : World} {F : Nat → Prop} {lb db : Nat} {lg lg' : LogD} (h : LI5 w' (· = lb) lb db lg') (k : LI5 w F lb db lg) : LI5 w' F lb db lg' := ⟨h.lt, k.here, k.only, h.c0, h.c1, h.c2, h.c3, h.f1, h.f2, h.f3, h.sf⟩
theorem LogSt.in_ {w : World} {FL FD : Nat → Prop} {lb db N : Nat} {st : St} {lg : LogD} (h : LogSt LI5 w FL FD lb db N st lg) : ∃ sb mb cv, LogIn w lb db sb mb cv N st lg ∧ FD db ∧ FD sb ∧ FD mb ∧ (∀ k, cv.ownBlock = some k → FD k) := by
  obtain ⟨sb, mb, cv, hD, f0, f1, f2, f3, f4⟩ := h.disk
  have hn : ∀ k, FD k → lb ≠ k := fun k hk e => h.apart lb h.log.here (e ▸ hk)
  exact ⟨sb, mb, cv, ⟨h.log.own, hD, hn _ f0, hn _ f1, hn _ f2, fun e => hn lb (f3 lb e) rfl⟩, f0, f1, f2, f3⟩
theorem logDoes_mk {w w' : World} {FL FD : Nat → Prop} {lb db N sb mb : Nat} {cv cv' : Value} {st st' : St} {lg lg' : LogD} {v : Value} (h : LogSt LI5 w FL FD lb db N st lg) (f0 : FD db) (f1 : FD sb) (f2 : FD mb) (f3 : ∀ k, cv.ownBlock = some k → FD k)
    (hL : LogIn w' lb db sb mb cv' N st' lg') (ho : ∀ k, cv'.ownBlock = some k → cv.ownBlock = some k ∨ w.heap.size ≤ k) (hm : Moves (FW lb db sb mb cv) w w') (ok : LogOK N lg') (hb : BytesD st') : LogDoes LI5 FL FD lb db N st' lg' v w (.returned v) w' := by
  have hfw : ∀ k, FW lb db sb mb cv k → FL k ∨ FD k := by
    rintro k (e | e | e | e | e)
    · exact .inl (e ▸ h.log.here)
    · exact .inr (e ▸ f0)
    · exact .inr (e ▸ f1)
    · exact .inr (e ▸ f2)
    · exact .inr (f3 k e)
  refine ⟨rfl, hm.mono hfw, FL, grow FD w w', ⟨hL.log.as h.log, ⟨sb, mb, cv', hL.disk, .inl f0, .inl f1, .inl f2, fun k hk => ?_, ?_⟩, ?_, ok, hb⟩, fun k hk => .inl hk, fun k hk => hk.elim .inl (fun x => .inr x.1)⟩
  · rcases ho k hk with y | y
    · exact .inl (f3 k y)
    · exact .inr ⟨y, (hL.disk.row.lt k hk).2⟩
  · rintro k (hk | hk)
    · exact Nat.lt_of_lt_of_le (h.disk.lt k hk) hm.size
    · exact hk.2
  · intro k hk hg
    rw [h.log.only k hk] at hg
    rcases hg with y | y
    · exact h.apart lb h.log.here y
    · have := h.log.lt; omega
theorem logDoes_same {w w' : World} {FL FD : Nat → Prop} {lb db N : Nat} {st : St} {lg : LogD} {v : Value} (h : LogSt LI5 w FL FD lb db N st lg) (hb : Below w.heap.size w w') : LogDoes LI5 FL FD lb db N st lg v w (.returned v) w' :=
  ⟨rfl, moves_of_below hb, FL, FD, h.below5 hb, fun k hk => .inl hk, fun k hk => .inl hk⟩
theorem bytes_app {st : St} (h : BytesD st) (N : Nat) (ss : List Sec) (ok : ∀ s ∈ ss, okS s) : BytesD ⟨st.safe, st.cache ++ puts N ss⟩ := by
  refine ⟨h.1, fun p hp => ?_⟩
  rcases List.mem_append.1 hp with y | y
  · exact h.2 p y
  · obtain ⟨s, hs, rfl⟩ := List.mem_map.1 y
    exact secL_bytes (ok s hs)
theorem writeRow_any (lb db sb mb : Nat) (cv : Value) (N : Nat) (st : St) (next first sure : Nat) (A : Option Addr) (len cap : Nat) (zs : List Int) (w : World) (h : LogIn w lb db sb mb cv N st ⟨next, first, sure⟩) (hl : zs.length = len) (hl2 : len ≤ 8000) (hz : isBytes zs) (g : Good A cap zs w) (hA : ∀ a, A = some a → ¬ FW lb db sb mb cv a.block)
    (hn1 : 1 ≤ next) (hnx : next + secsN zs ≤ 4294967296) (hf : first ≤ next) (hc : st.cache.length + secsN zs ≤ 999) :
    Calls Try.prog 24 #[.pointer (some ⟨lb, 0, none⟩), .slice A len cap] w (RowSays lb db sb mb cv N ⟨st.safe, st.cache ++ puts N (laySecs next first zs)⟩ ⟨next + secsN zs, first, sure⟩ w) :=
  callsIn_wide.1 (writeRow_in 4 (Nat.le_refl _) lb db sb mb cv N st next first sure A len cap zs w h hl hl2 hz g hA hn1 hnx hf hc)
theorem LogIn.apart_new {w : World} {lb db sb mb : Nat} {cv : Value} {N : Nat} {st : St} {lg : LogD} (h : LogIn w lb db sb mb cv N st lg) (k : Nat) (hk : FW lb db sb mb cv k) : k < w.heap.size := by
  obtain ⟨l0, l1, l2, l3⟩ := h.lts
  rcases hk with e | e | e | e | e
  · omega
  · omega
  · omega
  · omega
  · exact (h.disk.row.lt k e).2
theorem owns_new {B : Nat} {w : World} {A : Option Addr} {l c : Nat} {zs : List Int} (h : Owns B w (.slice A l c) zs) : ∀ a, A = some a → B ≤ a.block := by
  intro a e
  rcases h.2 with ⟨e2, _⟩ | ⟨g, cap, cur, e2, hb, _⟩
  · rw [e] at e2; cases e2
  · rw [e] at e2; cases e2; exact hb
set_option maxRecDepth 100000 in
set_option maxHeartbeats 1000000 in
theorem append5 (FL FD : Nat → Prop) (lb db N : Nat) (st : St) (lg : LogD) (A : Option Addr) (l c : Nat) (rs : List RecD) (spare : Int) (w : World) (h : LogSt LI5 w FL FD lb db N st lg) (hl : rs.length = l) (hl2 : l ≤ 200) (ok : ∀ r ∈ rs, okR r) (g : GoodR A c rs w) (hs : isI64 spare) (hc : st.cache.length + nOf rs ≤ 999) (hq : fitsE N lg rs 0 spare = 0) :
    Calls Try.prog 10 #[.pointer (some ⟨lb, 0, none⟩), .slice A l c, .int .i64 spare] w (LogDoes LI5 FL FD lb db N (appS N lg st rs) (appL lg rs) (.int .i64 0) w) := by
  obtain ⟨sb, mb, cv, hin, f0, f1, f2, f3⟩ := h.in_
  have cF := fitting_any FL FD lb db N st lg A l c 0 rs spare 0 w h hl hl2 ok g hs (by omega) hq
  obtain ⟨q1, q2, q3, q4⟩ := fits_ok hq
  have hRL := rightL_of q1 ok
  have hzb := rights_bytes hRL
  have hjl := joinL_le rs
  rw [hl] at hjl
  have HH := Lib.hid h
  have HI := Lib.hid hin
  have hdone := Lib.hid (show ∀ (w' : World) (cv' : Value), LogIn w' lb db sb mb cv' N ⟨st.safe, st.cache ++ puts N (laySecs lg.next lg.first (joinL rs))⟩ ⟨lg.next + secsN (joinL rs), lg.first, lg.sure⟩ → (∀ k, cv'.ownBlock = some k → cv.ownBlock = some k ∨ w.heap.size ≤ k) → Moves (FW lb db sb mb cv) w w' → LogDoes LI5 FL FD lb db N (appS N lg st rs) (appL lg rs) (.int .i64 0) w (.returned (.int .i64 0)) w' from fun w' cv' a1 a2 a3 => by
    have o := h.ok
    refine logDoes_mk h f0 f1 f2 f3 a1 a2 a3 ⟨o.one, o.sure1, ?_, ?_, ?_, ?_⟩ ?_
    · have := o.sure; show lg.sure ≤ lg.next + nOf rs; omega
    · have := o.first; show lg.first ≤ lg.next + nOf rs; omega
    · show lg.next + nOf rs ≤ _; omega
    · show lg.next + nOf rs ≤ lg.sure + N; omega
    · refine bytes_app h.bytes N _ (fun s hs => ?_)
      rcases Nat.eq_zero_or_pos (secsN (joinL rs)) with z | z
      · rw [show laySecs lg.next lg.first (joinL rs) = [] by unfold laySecs; rw [z]; rfl] at hs; cases hs
      · have hnn : lg.next + secsN (joinL rs) ≤ 4294967296 := by have e : nOf rs = secsN (joinL rs) := rfl; omega
        exact laySecs_ok _ _ _ hzb hnn (by have := o.first; omega) s hs)
  have hn1 : 1 ≤ lg.next := Nat.le_trans h.ok.one h.ok.first
  have hfn := h.ok.first
  have hnn : lg.next + secsN (joinL rs) ≤ 4294967296 := by have e : nOf rs = secsN (joinL rs) := rfl; omega
  have hcc : st.cache.length + secsN (joinL rs) ≤ 999 := hc
  obtain ⟨next, first, sure⟩ := lg
  simp only at *
  have HZ := Lib.hid hzb
  clear hq h hin hl ok g hRL q1 q2 q3 q4 hc hzb
  go_enter Try.func10, Try.ntmps10
  go_wp2_with fail
  refine cF.mono ?_
  clear cF
  rintro e W1 ⟨b1, ⟨_, v, rfl, own⟩ | ⟨hne, _⟩⟩
  · obtain ⟨A1, c1, rfl, g1⟩ := own.good
    have hnew := owns_new own
    have hI1 := HI.out.below b1
    have cR := writeRow_any lb db sb mb cv N st next first sure A1 (joinL rs).length c1 (joinL rs) W1 hI1 rfl (by omega) HZ.out g1 (fun a ha hf => by have := HI.out.apart_new _ hf; have := hnew a ha; omega) hn1 hnn hfn hcc
    have HB1 := Lib.hid b1
    generalize (joinL rs).length = jl at *
    clear own g1 hnew hI1 b1
    go_wp2_with fail
    refine cR.mono ?_
    clear cR
    rintro e W2 ⟨rfl, ⟨cv', hl', ho'⟩, hm'⟩
    have HL := Lib.hid hl'
    have HO := Lib.hid ho'
    have HM := Lib.hid hm'
    clear hl' ho' hm'
    go_wp2
    go_ret
    exact hdone.out W2 cv' HL.out (fun k hk => (HO.out k hk).elim .inl (fun y => .inr (Nat.le_trans HB1.out.size y))) ((moves_of_below HB1.out).trans HM.out (fun _ x => .inl x))
  · exact absurd rfl hne
theorem append_no5 (FL FD : Nat → Prop) (lb db N : Nat) (st : St) (lg : LogD) (A : Option Addr) (l c : Nat) (rs : List RecD) (spare q : Int) (w : World) (h : LogSt LI5 w FL FD lb db N st lg) (hl : rs.length = l) (hl2 : l ≤ 200) (ok : ∀ r ∈ rs, okR r) (g : GoodR A c rs w) (hs : isI64 spare) (hq : fitsE N lg rs 0 spare = q) (hq0 : q ≠ 0) :
    Calls Try.prog 10 #[.pointer (some ⟨lb, 0, none⟩), .slice A l c, .int .i64 spare] w (LogDoes LI5 FL FD lb db N st lg (.int .i64 q) w) := by
  have cF := fitting_any FL FD lb db N st lg A l c 0 rs spare q w h hl hl2 ok g hs (by omega) hq
  have HH := Lib.hid h
  have hqd : (q != 0) = true := by simpa using hq0
  clear h hl ok g hq
  go_enter Try.func10, Try.ntmps10
  go_wp2_with fail
  refine cF.mono ?_
  clear cF
  rintro e W1 ⟨b1, ⟨h0, _⟩ | ⟨_, rfl⟩⟩
  · exact absurd h0 hq0
  · go_wp2
    go_ret
    exact logDoes_same HH.out b1

theorem LogIn.first_set {w : World} {lb db sb mb : Nat} {cv : Value} {N : Nat} {st : St} {next first sure : Nat} (h : LogIn w lb db sb mb cv N st ⟨next, first, sure⟩) (x : Nat) (hx : sure ≤ x) : LogIn (w.setCell ⟨lb, 2, none⟩ (.int .i64 x)) lb db sb mb cv N st ⟨next, x, sure⟩ := by
  have hm2 : Moves (· = lb) w (w.setCell ⟨lb, 2, none⟩ (.int .i64 x)) := moves_setCell _ _ _ _ rfl
  have hd := h.disk
  exact ⟨li5_set2 h.log x hx, hd.kept hm2.size (hm2.block _ hd.lt0 (Ne.symm h.n0)) (hm2.block _ hd.lt1 (Ne.symm h.n1)) (hm2.block _ hd.map.lt (Ne.symm h.n2)) (fun k hk => hm2.block k (hd.row.lt k hk).2 (fun e => h.n3 (e ▸ hk))), h.n0, h.n1, h.n2, h.n3⟩
theorem chkSecs_ok (lg : LogD) (rs : List RecD) (hzb : isBytes (joinL rs)) (h1 : lg.next + nOf rs + 1 ≤ 4294967296) (hf : lg.first ≤ lg.next) : ∀ s ∈ chkSecs lg rs, okS s := by
  intro s hs
  have e : nOf rs = secsN (joinL rs) := rfl
  rcases List.mem_append.1 hs with y | y
  · exact laySecs_ok _ _ _ hzb (by omega) (by omega) s y
  · rw [List.mem_singleton] at y
    rw [y]
    exact ⟨by show lg.next + nOf rs < _; omega, by show lg.next < _; omega, Nat.zero_le _, fun z hz => by cases hz⟩
set_option maxRecDepth 100000 in
set_option maxHeartbeats 1000000 in
theorem check5 (FL FD : Nat → Prop) (lb db N : Nat) (st : St) (lg : LogD) (A : Option Addr) (l c : Nat) (rs : List RecD) (spare : Int) (w : World) (h : LogSt LI5 w FL FD lb db N st lg) (hl : rs.length = l) (hl2 : l ≤ 200) (ok : ∀ r ∈ rs, okR r) (g : GoodR A c rs w) (hs : isI64 spare) (hc : st.cache.length + nOf rs + 1 ≤ 999) (hq : fitsE N lg rs 1 spare = 0) :
    Calls Try.prog 15 #[.pointer (some ⟨lb, 0, none⟩), .slice A l c, .int .i64 spare] w (LogDoes LI5 FL FD lb db N (chkS N lg st rs) (chkL lg rs) (.int .i64 0) w) := by
  obtain ⟨sb, mb, cv, hin, f0, f1, f2, f3⟩ := h.in_
  have cF := fitting_any FL FD lb db N st lg A l c 1 rs spare 0 w h hl hl2 ok g hs (by omega) hq
  obtain ⟨q1, q2, q3, q4⟩ := fits_ok hq
  have hRL := rightL_of q1 ok
  have hzb := rights_bytes hRL
  have hjl := joinL_le rs
  rw [hl] at hjl
  have HI := Lib.hid hin
  have en : nOf rs = secsN (joinL rs) := rfl
  have hdone := Lib.hid (show ∀ (w' : World) (cv' : Value), LogIn w' lb db sb mb cv' N (writeS ⟨st.safe, st.cache ++ puts N (laySecs lg.next lg.first (joinL rs))⟩ (placeOf N (lg.next + secsN (joinL rs))) (secL ⟨lg.next + secsN (joinL rs), lg.next, [], true⟩)) ⟨lg.next + secsN (joinL rs) + 1, lg.next, lg.sure⟩ → (∀ k, cv'.ownBlock = some k → cv.ownBlock = some k ∨ w.heap.size ≤ k) → Moves (FW lb db sb mb cv) w w' → LogDoes LI5 FL FD lb db N (chkS N lg st rs) (chkL lg rs) (.int .i64 0) w (.returned (.int .i64 0)) w' from fun w' cv' a1 a2 a3 => by
    have o := h.ok
    have e1 : writeS ⟨st.safe, st.cache ++ puts N (laySecs lg.next lg.first (joinL rs))⟩ (placeOf N (lg.next + secsN (joinL rs))) (secL ⟨lg.next + secsN (joinL rs), lg.next, [], true⟩) = chkS N lg st rs := by
      unfold writeS chkS chkSecs
      rw [puts_append]
      simp [puts, en]
    rw [e1] at a1
    refine logDoes_mk h f0 f1 f2 f3 a1 a2 a3 ⟨?_, o.sure1, ?_, ?_, ?_, ?_⟩ ?_
    · have := o.one; have := o.first; show 1 ≤ lg.next; omega
    · have := o.sure; show lg.sure ≤ lg.next + nOf rs + 1; omega
    · show lg.next ≤ lg.next + nOf rs + 1; omega
    · show lg.next + nOf rs + 1 ≤ _; omega
    · show lg.next + nOf rs + 1 ≤ lg.sure + N; omega
    · exact bytes_app h.bytes N _ (chkSecs_ok lg rs hzb (by omega) o.first))
  have hn1 : 1 ≤ lg.next := Nat.le_trans h.ok.one h.ok.first
  have hfn := h.ok.first
  have hsn := h.ok.sure
  have hnn : lg.next + secsN (joinL rs) + 1 ≤ 4294967296 := by omega
  have hcc : st.cache.length + secsN (joinL rs) + 1 ≤ 999 := hc
  obtain ⟨next, first, sure⟩ := lg
  simp only at *
  have HZ := Lib.hid hzb
  clear hq h hin hl ok g hRL q1 q2 q3 q4 hc hzb en
  go_enter Try.func15, Try.ntmps15
  go_wp2_with fail
  refine cF.mono ?_
  clear cF
  rintro e W1 ⟨b1, ⟨_, v, rfl, own⟩ | ⟨hne, _⟩⟩
  · obtain ⟨A1, c1, rfl, g1⟩ := own.good
    have hnew := owns_new own
    have hI1 := HI.out.below b1
    have k1 := hI1.log.c1
    have cR := writeRow_any lb db sb mb cv N st next first sure A1 (joinL rs).length c1 (joinL rs) W1 hI1 rfl (by omega) HZ.out g1 (fun a ha hf => by have := HI.out.apart_new _ hf; have := hnew a ha; omega) hn1 (by omega) hfn (by omega)
    have HB1 := Lib.hid b1
    have HI1 := Lib.hid hI1
    generalize (joinL rs).length = jl at *
    clear own g1 hnew hI1 b1
    simp only at k1
    go_wp2_with fail
    refine cR.mono ?_
    clear cR
    rintro e W2 ⟨rfl, ⟨cv', hl', ho'⟩, hm'⟩
    have k2 := hl'.log.c2
    have k3 := hl'.log.f2
    have hset := hl'.first_set next hsn
    have hcl : (st.cache ++ puts N (laySecs next first (joinL rs))).length = st.cache.length + secsN (joinL rs) := by rw [List.length_append, puts_length, laySecs_length]
    have cW := writeSec_any lb db sb mb cv' N ⟨st.safe, st.cache ++ puts N (laySecs next first (joinL rs))⟩ (next + secsN (joinL rs)) next sure none 0 0 [] true (W2.setCell ⟨lb, 2, none⟩ (.int .i64 next)) hset rfl (by omega) (fun z hz => by cases hz) (Good.nil _) (by omega) (by omega) (by omega) (by show (st.cache ++ puts N (laySecs next first (joinL rs))).length ≤ 999; omega)
    have HL := Lib.hid hl'
    have HO := Lib.hid ho'
    have HM := Lib.hid hm'
    simp only at k2
    clear hl' ho' hm' hset hcl
    go_wp2_with fail
    refine cW.mono ?_
    clear cW
    rintro e W3 ⟨rfl, ⟨cv'', hl'', ho''⟩, hm''⟩
    have HL2 := Lib.hid hl''
    have HO2 := Lib.hid ho''
    have HM2 := Lib.hid hm''
    clear hl'' ho'' hm''
    go_wp2
    go_ret
    have hm2 : Moves (· = lb) W2 (W2.setCell ⟨lb, 2, none⟩ (.int .i64 next)) := moves_setCell _ _ _ _ rfl
    have hs2 : (W2.setCell ⟨lb, 2, none⟩ (.int .i64 next)).heap.size = W2.heap.size := by simp
    have z1 := HB1.out.size
    have z2 := HM.out.size
    refine hdone.out W3 cv'' HL2.out (fun k hk => ?_) ?_
    · rcases HO2.out k hk with y | y
      · rcases HO.out k y with x | x
        · exact .inl x
        · exact .inr (by omega)
      · exact .inr (by omega)
    · have m1 : Moves (FW lb db sb mb cv) w (W2.setCell ⟨lb, 2, none⟩ (.int .i64 next)) := ((moves_of_below HB1.out).trans HM.out (fun _ x => .inl x)).trans hm2 (fun k hk => .inl (.inl hk))
      refine m1.trans HM2.out ?_
      rintro k (e | e | e | e | e)
      · exact .inl (.inl e)
      · exact .inl (.inr (.inl e))
      · exact .inl (.inr (.inr (.inl e)))
      · exact .inl (.inr (.inr (.inr (.inl e))))
      · rcases HO.out k e with y | y
        · exact .inl (.inr (.inr (.inr (.inr y))))
        · exact .inr (by omega)
  · exact absurd rfl hne
theorem check_no5 (FL FD : Nat → Prop) (lb db N : Nat) (st : St) (lg : LogD) (A : Option Addr) (l c : Nat) (rs : List RecD) (spare q : Int) (w : World) (h : LogSt LI5 w FL FD lb db N st lg) (hl : rs.length = l) (hl2 : l ≤ 200) (ok : ∀ r ∈ rs, okR r) (g : GoodR A c rs w) (hs : isI64 spare) (hq : fitsE N lg rs 1 spare = q) (hq0 : q ≠ 0) :
    Calls Try.prog 15 #[.pointer (some ⟨lb, 0, none⟩), .slice A l c, .int .i64 spare] w (LogDoes LI5 FL FD lb db N st lg (.int .i64 q) w) := by
  have cF := fitting_any FL FD lb db N st lg A l c 1 rs spare q w h hl hl2 ok g hs (by omega) hq
  have HH := Lib.hid h
  have hqd : (q != 0) = true := by simpa using hq0
  clear h hl ok g hq
  go_enter Try.func15, Try.ntmps15
  go_wp2_with fail
  refine cF.mono ?_
  clear cF
  rintro e W1 ⟨b1, ⟨h0, _⟩ | ⟨_, rfl⟩⟩
  · exact absurd h0 hq0
  · go_wp2
    go_ret
    exact logDoes_same HH.out b1
/-- What layer 5's calls answer. -/
theorem walOK : WalOK LI5 where
  lt := fun h => h.lts
  kept := fun h hm hd => h.kept hm hd
  open_yes := open_yes5
  open_no := open_no5
  app_yes := fun FL FD lb db N st lg A l c rs spare w h h1 h2 h3 h4 h5 h6 h7 => append5 FL FD lb db N st lg A l c rs spare w h h1 h2 h3 h4 h5 h6 h7
  app_no := fun FL FD lb db N st lg A l c rs spare q w h h1 h2 h3 h4 h5 h6 h7 => append_no5 FL FD lb db N st lg A l c rs spare q w h h1 h2 h3 h4 h5 h6 h7
  chk_yes := fun FL FD lb db N st lg A l c rs spare w h h1 h2 h3 h4 h5 h6 h7 => check5 FL FD lb db N st lg A l c rs spare w h h1 h2 h3 h4 h5 h6 h7
  chk_no := fun FL FD lb db N st lg A l c rs spare q w h h1 h2 h3 h4 h5 h6 h7 => check_no5 FL FD lb db N st lg A l c rs spare q w h h1 h2 h3 h4 h5 h6 h7
  force := force5
  free := free5
  next := next5
  first := first5
  sectors := fun A l c rs w h1 h2 h3 h4 => sectors5 A l c rs w h1 h2 h3 h4
end Go.Proofs.Ytdmkkfpbgpijjaa
namespace Go.Proofs.Ytdmkkfpbgpijjaa
open Go.RowKit Go.Deep
set_option linter.unusedVariables false

theorem ownsR_lit5 (w : World) : OwnsR w.heap.size (w.alloc (.cells #[] 48)) (.slice (some ⟨w.heap.size, 0, none⟩) 0 0) [] := by
  unfold OwnsR
  exact ⟨by simp, .inr ⟨w.heap.size, 0, _, rfl, Nat.le_refl _, heap_alloc_new w _, Nat.le_refl _, by simp only [maxLen]; omega, by simp, by simp⟩⟩
theorem OwnsR.there5 {B : Nat} {w : World} {v : Value} {rs : List RecD} (h : OwnsR B w v rs) (hn : v ≠ .slice none 0 0) : ∃ g c, v = .slice (some ⟨g, 0, none⟩) rs.length c ∧ GoodR (some ⟨g, 0, none⟩) c rs w := h.there hn
theorem OwnsR.base5 {B B' : Nat} {w : World} {v : Value} {rs : List RecD} (h : OwnsR B w v rs) (hB : B' ≤ B) : OwnsR B' w v rs := h.base hB
/-- What the loop keeps. -/
structure LInv (LI : World → (Nat → Prop) → Nat → Nat → LogD → Prop) (B : Nat) (w0 : World) (lb db N : Nat) (v : Value) (sN j : Nat) (wr : World) (R : List (List RecD)) (kf : Nat) (lg : LogD) (st : St) : Prop where
  app : App N R kf lg st
  has : LHas LI B w0 (fun k => v.ownBlock = some k) wr lb db N st lg
  own : OwnsR B wr v R.flatten
  nn : v ≠ .slice none 0 0
  safe : ∃ js, rowsN (R.take js) ≤ kf ∧ sN = (R.take js).flatten.length
  len : R.flatten.length ≤ 20 * j
theorem LInv.lt {LI : World → (Nat → Prop) → Nat → Nat → LogD → Prop} {B : Nat} {w0 : World} {lb db N : Nat} {v : Value} {sN j : Nat} {wr : World} {R : List (List RecD)} {kf : Nat} {lg : LogD} {st : St} (h : LInv LI B w0 lb db N v sN j wr R kf lg st) : ∀ k, v.ownBlock = some k → k < wr.heap.size := fun k hk => (ownsR_ge h.own k hk).2
theorem flatten_snoc (R : List (List RecD)) (ls : List RecD) : (R ++ [ls]).flatten = R.flatten ++ ls := by simp
theorem take_snoc_le (R : List (List RecD)) (ls : List RecD) (js : Nat) : ∃ j2, (R ++ [ls]).take j2 = R.take js := by
  rcases Nat.lt_or_ge js R.length with h | h
  · exact ⟨js, List.take_append_of_le_length (by omega)⟩
  · exact ⟨R.length, by rw [List.take_append_of_le_length (Nat.le_refl _), List.take_of_length_le (l := R) (i := js) h, List.take_of_length_le (Nat.le_refl _)]⟩
theorem log_small (N m : Nat) (h : m ≤ N) (hN : N ≤ 512) : LogOK N ⟨m + 1, 1, 1⟩ := ⟨Nat.le_refl _, Nat.le_refl _, by dsimp only; omega, by dsimp only; omega, by dsimp only; omega, by dsimp only; omega⟩
set_option maxRecDepth 100000 in
set_option maxHeartbeats 2000000 in
theorem lasts_out {LI : World → (Nat → Prop) → Nat → Nat → LogD → Prop} (S : WalOK LI) (n : Int) (A : Option Addr) (l c : Nat) (m : l ≤ 9223372036854775807) (forced keep tear : Int) (h : n < 1 ∨ 200 < n ∨ 30 < l) (w : World) :
    Calls Try.prog 3 #[.int .i64 n, .slice A l c, .int .i64 forced, .int .i64 keep, .int .i64 tear] w fun e w' => e = .returned (.bool true) ∧ Below w.heap.size w w' := by
  have c0 : ∀ W, Calls Try.prog 8 #[] W fun e w' => e = .returned (.bool true) ∧ Below W.heap.size W w' := fun W => alive5 S W
  clear S
  have key : ∀ a b d : Bool, decide (n < 1) = a → decide (200 < n) = b → decide ((30 : Int) < (l : Int)) = d → (a || b || d) = true →
      Calls Try.prog 3 #[.int .i64 n, .slice A l c, .int .i64 forced, .int .i64 keep, .int .i64 tear] w fun e w' => e = .returned (.bool true) ∧ Below w.heap.size w w' := by
    intro a b d ha hb hd hor
    cases a <;> cases b <;> cases d <;> first | (exfalso; revert hor; decide) | skip
    all_goals
      clear hor h
      go_enter Try.func3, Try.ntmps3
      go_wp2_with fail
      (with_reducible refine (c0 _).mono ?_)
      rintro e w1 ⟨rfl, k1⟩
      go_wp2
      go_ret
      exact ⟨rfl, k1⟩
  refine key _ _ _ rfl rfl rfl ?_
  simp only [Bool.or_eq_true, decide_eq_true_eq]
  omega
set_option maxRecDepth 100000 in
set_option maxHeartbeats 4000000 in
theorem lasts_in {LI : World → (Nat → Prop) → Nat → Nat → LogD → Prop} (S : WalOK LI) (N : Nat) (h1 : 1 ≤ N) (h2 : N ≤ 200) (A : Option Addr) (l c : Nat) (Ls : List (List RecD)) (hl : Ls.length = l) (h30 : l ≤ 30) (ok : ∀ ls ∈ Ls, ∀ r ∈ ls, okR r) (forced keep tear : Int) (w : World) (g : GoodL A Ls w) :
    Calls Try.prog 3 #[.int .i64 (N : Int), .slice A l c, .int .i64 forced, .int .i64 keep, .int .i64 tear] w fun e w' => e = .returned (.bool true) ∧ Below w.heap.size w w' := by
  have c0 : ∀ W, Calls Try.prog 8 #[] W fun e w' => e = .returned (.bool true) ∧ Below W.heap.size W w' := fun W => alive5 S W
  have d1 : decide ((N : Int) < 1) = false := by simp; omega
  have d2 : decide ((200 : Int) < (N : Int)) = false := by simp; omega
  have d3 : decide ((30 : Int) < (l : Int)) = false := by simp; omega
  have F1 := fun W => begin5 S N h1 (by omega) W
  have HK := Lib.hid S
  have HL := Lib.hid hl
  clear S
  go_enter Try.func3, Try.ntmps3
  go_wp2_with fail
  (with_reducible refine (c0 _).mono ?_)
  rintro e w0 ⟨rfl, k0⟩
  clear c0
  go_wp2_with fail
  refine (F1 _).mono ?_
  rintro e w1 ⟨db, lb, FL, FD, rfl, hs, hfl, hfd, k1⟩
  clear F1
  have h0 : LHas LI w.heap.size w (fun k => k = w1.heap.size) w1 lb db N (newS N) g0 := ⟨⟨FL, FD, hs, fun k hk => ⟨Nat.le_trans k0.size (hfl k hk), fun e => by have := HK.out.lt hs.log k hk; omega⟩, fun k hk => ⟨Nat.le_trans k0.size (hfd k hk), fun e => by have := hs.disk.lt k hk; omega⟩⟩, below_more k0 k1 (Nat.le_refl _), Nat.le_trans k0.size k1.size⟩
  have hst : LInv LI w.heap.size w lb db N (.slice (some ⟨w1.heap.size, 0, none⟩) 0 0) 0 0 (w1.alloc (.cells #[] 48)) [] 0 g0 (newS N) :=
    ⟨App.start N, (h0.keep HK.out ((Below.refl _ _).alloc (Nat.le_refl _) _)).addX HK.out (fun k hk => .inl (by injection hk with hk; exact hk.symm)), (ownsR_lit5 w1).base (Nat.le_trans k0.size k1.size), (fun e => by injection e with e; cases e), ⟨0, by simp [rowsN], by simp⟩, by simp⟩
  clear hs hfl hfd k1 k0 h0
  have HST := Lib.hid hst
  clear hst
  go_wp2
  go_loopw [13, 14, 15] (fun v sv i wr => ∃ (vv : Value) (j sN : Nat), vv = v ∧ j ≤ l ∧ i = .int .i64 j ∧ sv = .int .i64 (sN : Nat) ∧ ∃ R kf lg st, LInv LI w.heap.size w lb db N vv sN j wr R kf lg st) (fun _ _ i _ => l - (intOf i).toNat)
  case atStart => exact ⟨_, 0, 0, rfl, Nat.zero_le _, rfl, rfl, [], 0, g0, newS N, HST.out⟩
  case round =>
    obtain ⟨v, j, sN, hvv, hj, rfl, rfl, R, kf, lg, st, hv⟩ := hrel
    subst hvv
    clear HST
    have hbel := hv.has.below
    by_cases hlt : j < l
    · have hjl : j < Ls.length := by omega
      have okl := ok _ (List.getElem_mem hjl)
      obtain ⟨b, off, A', c', rfl, hbl, hcell, gl⟩ := (g.below hbel).at_ j hjl
      have hbw : b < w.heap.size := by
        obtain ⟨b', off', e, hlt', _⟩ := g (by omega)
        cases e
        exact hlt'
      have hglw : ∀ W, Below w.heap.size w W → W.cell? ⟨b, off + j, none⟩ = some (.slice A' Ls[j].length c') ∧ GoodR A' c' Ls[j] W := fun W hW => by
        obtain ⟨b2, off2, A2, c2, e, _, hc2, g2⟩ := (g.below hW).at_ j hjl
        cases e
        have hc3 : wr.cell? ⟨b, off + j, none⟩ = W.cell? ⟨b, off + j, none⟩ := (hbel.cell (p := ⟨b, off + j, none⟩) hbw).trans (hW.cell (p := ⟨b, off + j, none⟩) hbw).symm
        rw [hcell, hc2] at hc3
        injection hc3 with hc3
        injection hc3 with e1 e2 e3
        subst e1 e3
        exact ⟨hc2, g2⟩
      generalize Ls[j] = ls at *
      obtain ⟨ll, hll⟩ : ∃ ll, ls.length = ll := ⟨_, rfl⟩
      rw [hll] at hcell hglw
      have HGW := Lib.hid hglw
      clear hglw
      by_cases h20 : 20 < ll
      · have d20 : decide ((20 : Int) < (ll : Int)) = true := by simp; omega
        have hb := Lib.hid hbel
        clear hv gl HGW hbel
        go_wp2
        go_ret
        exact ⟨rfl, hb.out⟩
      · have d20 : decide ((20 : Int) < (ll : Int)) = false := by simp; omega
        by_cases hq : fitsE N lg ls 0 0 = 0
        · have happ := hv.app.append okl hq
          have hcl := hv.app.cache_le
          have hnl := happ.le
          rw [rowsN_snoc] at hnl
          have F2 := hv.has.does hv.lt (fun FL FD hs => HK.out.app_yes FL FD lb db N st lg A' ll c' ls 0 _ hs hll (by omega) okl gl i64_0 (by show st.cache.length + secsN (joinL ls) ≤ 999; omega) hq)
          go_wp2_with fail
          (with_reducible refine F2.mono ?_)
          rintro e w2 ⟨rfl, h2', t2⟩
          have own2 := t2.ownsR hv.own (fun k hk => hk)
          obtain ⟨hcell2, gl2⟩ := HGW.out w2 h2'.below
          have hln := hv.len
          clear F2 hcell gl hbel t2
          have HMK : Hid (∀ v3 w3, OwnsR w.heap.size w3 v3 (R.flatten ++ ls) → w2.grownBy w3 v.ownBlock → (v ≠ .slice none 0 0 → v3 ≠ .slice none 0 0) → (∀ k, v3.ownBlock = some k → v.ownBlock = some k ∨ w2.heap.size ≤ k) → LInv LI w.heap.size w lb db N v3 sN (j + 1) w3 (R ++ [ls]) kf (appL lg ls) (appS N lg st ls)) := Lib.hid (fun v3 w3 o3 gr3 nn3 at3 => by
            refine ⟨happ, h2'.grow HK.out gr3 (fun k hk => ⟨hk, (ownsR_ge own2 k hk).1⟩) at3, by rw [flatten_snoc]; exact o3, nn3 hv.nn, ?_, by rw [flatten_snoc, List.length_append]; omega⟩
            obtain ⟨js, a1, a2⟩ := hv.safe
            obtain ⟨j2, e2⟩ := take_snoc_le R ls js
            exact ⟨j2, by rw [e2]; exact a1, by rw [e2]; exact a2⟩)
          clear hv happ hcl hnl hq
          cases hdf : decide ((j : Int) < forced) with
          | true =>
            go_wp2_with (first
              | (at_builtin; refine wpList_appendL rfl _ _ rfl w.heap.size v R.flatten rfl own2 A' ls ll c' rfl hll gl2 (by omega) h2'.size ?_; intro v3 w3 o3 gr3 nn3 at3; have hvN := HMK.out v3 w3 o3 gr3 nn3 at3; clear HMK own2 o3 gr3 nn3 at3 hcell2 gl2 h2'; obtain ⟨gb, cb, rfl, gg⟩ := hvN.own.there5 hvN.nn; obtain ⟨nl, hnl⟩ : ∃ nl, (R ++ [ls]).flatten.length = nl := ⟨_, rfl⟩; have HNL := Lib.hid hnl; rw [hnl] at hvN ⊢; have HVN := Lib.hid hvN; have FF := hvN.has.does hvN.lt (fun FL FD hs => HK.out.force FL FD lb db N _ _ _ hs (by have := hvN.app.cache_le; omega)); clear hvN gg hnl)
              | (go_at_call 11; (with_reducible refine FF.mono ?_); rintro e w5 ⟨rfl, h5, t5⟩))
            go_roundw
            case rel =>
              have hvN := HVN.out
              exact ⟨_, j + 1, nl, rfl, by omega, by go_num, rfl, _, _, _, _, ⟨hvN.app.force, h5, t5.ownsR hvN.own (fun k hk => hk), hvN.nn, ⟨(R ++ [ls]).length, by rw [List.take_length]; exact Nat.le_refl _, by rw [List.take_length]; exact HNL.out.symm⟩, hvN.len⟩⟩
            case measure => simp [intOf]; omega
          | false =>
            go_wp2_with (first
              | (at_builtin; refine wpList_appendL rfl _ _ rfl w.heap.size v R.flatten rfl own2 A' ls ll c' rfl hll gl2 (by omega) h2'.size ?_; intro v3 w3 o3 gr3 nn3 at3; have hvN := HMK.out v3 w3 o3 gr3 nn3 at3; clear HMK own2 o3 gr3 nn3 at3 hcell2 gl2 h2'; obtain ⟨gb, cb, rfl, gg⟩ := hvN.own.there5 hvN.nn; obtain ⟨nl, hnl⟩ : ∃ nl, (R ++ [ls]).flatten.length = nl := ⟨_, rfl⟩; have HNL := Lib.hid hnl; rw [hnl] at hvN ⊢; have HVN := Lib.hid hvN; have FF := hvN.has.does hvN.lt (fun FL FD hs => HK.out.force FL FD lb db N _ _ _ hs (by have := hvN.app.cache_le; omega)); clear hvN gg hnl; clear FF))
            go_roundw
            case rel =>
              have hvN := HVN.out
              exact ⟨_, j + 1, sN, rfl, by omega, by go_num, rfl, _, _, _, _, hvN⟩
            case measure => simp [intOf]; omega
        · obtain ⟨q, hqq⟩ : ∃ q, fitsE N lg ls 0 0 = q := ⟨_, rfl⟩
          rw [hqq] at hq
          have hqb : (q == 0) = false := by simpa using hq
          have F2 := hv.has.does hv.lt (fun FL FD hs => HK.out.app_no FL FD lb db N st lg A' ll c' ls 0 q _ hs hll (by omega) okl gl i64_0 hqq hq)
          clear hqq hq
          go_wp2_with fail
          (with_reducible refine F2.mono ?_)
          rintro e w2 ⟨rfl, h2', t2⟩
          have hvN : LInv LI w.heap.size w lb db N v sN (j + 1) w2 R kf lg st := ⟨hv.app, h2', t2.ownsR hv.own (fun k hk => hk), hv.nn, hv.safe, by have := hv.len; omega⟩
          clear hv F2 hcell gl hbel t2 h2'
          obtain ⟨gb, cb, rfl, gg⟩ := hvN.own.there5 hvN.nn
          obtain ⟨nl, hnl⟩ : ∃ nl, (R).flatten.length = nl := ⟨_, rfl⟩
          have HNL := Lib.hid hnl
          rw [hnl] at hvN ⊢
          have HVN := Lib.hid hvN
          have FF := hvN.has.does hvN.lt (fun FL FD hs => HK.out.force FL FD lb db N _ _ _ hs (by have := hvN.app.cache_le; omega))
          clear hvN gg hnl
          cases hdf : decide ((j : Int) < forced) with
          | true =>
            go_wp2_with fail
            (with_reducible refine FF.mono ?_)
            rintro e w5 ⟨rfl, h5, t5⟩
            clear FF
            go_wp2
            go_roundw
            case rel =>
              have hvN := HVN.out
              exact ⟨_, j + 1, nl, rfl, by omega, by go_num, rfl, _, _, _, _, ⟨hvN.app.force, h5, t5.ownsR hvN.own (fun k hk => hk), hvN.nn, ⟨(R).length, by rw [List.take_length]; exact Nat.le_refl _, by rw [List.take_length]; exact HNL.out.symm⟩, hvN.len⟩⟩
            case measure => simp [intOf]; omega
          | false =>
            clear FF
            go_wp2
            go_roundw
            case rel =>
              have hvN := HVN.out
              exact ⟨_, j + 1, sN, rfl, by omega, by go_num, rfl, _, _, _, _, hvN⟩
            case measure => simp [intOf]; omega
    · obtain rfl : j = l := by omega
      have hcl := hv.app.cache_le
      obtain ⟨m, q, hm, hq, hj, hon, htl, ht⟩ := hv.app.crash (by omega) keep tear
      have hle := hv.app.le
      have F3 := hv.has.disk.crash hv.lt keep tear (by omega)
      obtain ⟨gb, cb, rfl, gg⟩ := hv.own.there5 hv.nn
      have hsq : sN ≤ q := by
        obtain ⟨js, a1, a2⟩ := hv.safe
        rw [a2]; exact hj js a1
      have hlen := hv.len
      have hX := hv.lt
      have own := hv.own
      obtain ⟨nl, hnl⟩ : ∃ nl, R.flatten.length = nl := ⟨_, rfl⟩
      have hq' : q ≤ nl := by omega
      have hxl : (R.flatten.take q).length = q := by rw [List.length_take]; omega
      have HNL := Lib.hid hnl
      have HXL := Lib.hid hxl
      have HT := Lib.hid ht
      have HOK := Lib.hid (log_small N m (by omega) (by omega))
      clear hon htl ht hj hv gg hle hcl hm hxl
      rw [HNL.out] at F3 own hX ⊢
      generalize crashS st keep tear = st1 at *
      go_wp2_with fail
      (with_reducible refine F3.mono ?_)
      rintro e w2 ⟨rfl, h2', t2⟩
      have own2 := t2.ownsR own (fun k hk => hk)
      have hX2 : ∀ k, (Value.slice (some ⟨gb, 0, none⟩) nl cb).ownBlock = some k → k < w2.heap.size := fun k hk => Nat.lt_of_lt_of_le (hX k hk) t2.1
      clear F3 own hX t2
      go_wp2_with fail
      refine (h2'.opens HK.out hX2 HT.out HOK.out).mono ?_
      rintro e w3 ⟨lb2, v2, rfl, o3, h3, k3⟩
      obtain ⟨A2, c2, rfl, g2⟩ := o3.good
      have own3 := own2.below k3
      obtain ⟨gb3, cb3, e3, g3⟩ := own3.there5 (fun e => by injection e with e; cases e)
      injection e3 with e4 e5 e6
      injection e4 with e4
      injection e4 with e4 _ _
      subst e4 e6
      rw [HXL.out]
      have F4 := sameR A2 (some ⟨gb, 0, none⟩) (R.flatten.take q) q c2 cb HXL.out (by omega) w3 g2 (g3.take q)
      have hcb : nl ≤ cb := by have := g3.2.1; omega
      have hb := Lib.hid (fun w' (kk : Below w3.heap.size w3 w') => h3.below.trans (kk.mono h3.size))
      have dq1 : decide ((q : Int) < (sN : Int)) = false := by simp; omega
      have dq2 : decide (q < sN) = false := by simp; omega
      have dq3 : decide ((nl : Int) < (q : Int)) = false := by simp; omega
      have dq4 : decide (nl < q) = false := by simp; omega
      have i1 : q ≤ cb := by omega
      clear own2 own3 o3 h3 k3 g2 g3 hX2 h2' e5 HT HOK
      go_wp2_with fail
      (with_reducible refine F4.mono ?_)
      rintro e w4 ⟨rfl, k4⟩
      have hb2 := Lib.hid (hb.out _ k4)
      clear k4 F4
      go_wp2
      go_ret
      exact ⟨rfl, hb2.out⟩
/-- WalLasts returns true, for every input. -/
theorem walLasts_any {LI : World → (Nat → Prop) → Nat → Nat → LogD → Prop} (S : WalOK LI) (n : Int) (A : Option Addr) (l c : Nat) (Ls : List (List RecD)) (hl : Ls.length = l) (m : l ≤ 9223372036854775807) (ok : ∀ ls ∈ Ls, ∀ r ∈ ls, okR r) (forced keep tear : Int) (w : World) (g : GoodL A Ls w) :
    Calls Try.prog 3 #[.int .i64 n, .slice A l c, .int .i64 forced, .int .i64 keep, .int .i64 tear] w fun e w' => e = .returned (.bool true) ∧ Below w.heap.size w w' := by
  by_cases h : n < 1 ∨ 200 < n ∨ 30 < l
  · exact lasts_out S n A l c m forced keep tear h w
  · obtain ⟨N, rfl⟩ : ∃ N : Nat, n = (N : Int) := ⟨n.toNat, by omega⟩
    exact lasts_in S N (by omega) (by omega) A l c Ls hl (by omega) ok forced keep tear w g
end Go.Proofs.Ytdmkkfpbgpijjaa
namespace Go.Proofs.Ytdmkkfpbgpijjaa
open Go.RowKit Go.Deep
set_option linter.unusedVariables false

theorem DHas.addX {B : Nat} {w0 : World} {X X' : Nat → Prop} {w : World} {db N : Nat} {st : St} (h : DHas B w0 X w db N st) (hX : ∀ k, X' k → X k ∨ w.heap.size ≤ k) : DHas B w0 X' w db N st := by
  obtain ⟨FD, hd, h2⟩ := h.ex
  refine ⟨⟨FD, hd, fun k hk => ⟨(h2 k hk).1, fun x => ?_⟩⟩, h.bytes, h.below, h.size⟩
  rcases hX k x with a | a
  · exact (h2 k hk).2 a
  · have := hd.lt k hk; omega
theorem DHas.keep {B : Nat} {w0 : World} {X : Nat → Prop} {w w' : World} {db N : Nat} {st : St} (h : DHas B w0 X w db N st) (hb : Below w.heap.size w w') : DHas B w0 X w' db N st := by
  obtain ⟨FD, hd, h2⟩ := h.ex
  exact ⟨⟨FD, hd.below hb, h2⟩, h.bytes, h.below.trans (hb.mono h.size), Nat.le_trans h.size hb.size⟩
theorem crash_twice (st : St) (a b c d : Int) : crashS (crashS st a b) c d = crashS st a b := rfl
/-- Opened again, appended to or not, forced: what is told then. -/
theorem twice_end {N : Nat} {R : List (List RecD)} (hR : ∀ l ∈ R, RightL l) (hN : N ≤ 512) {st : St} {keep tear : Int} {m : Nat} {rs : List RecD} (h : OnD N (crashS st keep tear).safe (secsRows 1 1 R) m) (ht : tellR ((secsRows 1 1 R).take m) = some rs) {more : List RecD} (ok : ∀ r ∈ more, okR r) (hf : fitsE N ⟨m + 1, 1, 1⟩ more 0 0 = 0) :
    tells (nows (flushS (appS N ⟨m + 1, 1, 1⟩ (crashS st keep tear) more))) = some (⟨m + 1 + nOf more, 1, 1⟩, rs ++ more) ∧ LogOK N ⟨m + 1 + nOf more, 1, 1⟩ := by
  refine ⟨App.again hR hN h ht ok hf, ?_⟩
  obtain ⟨f1, f2, f3, f4⟩ := fits_ok hf
  dsimp only at f3 f4
  exact ⟨Nat.le_refl _, Nat.le_refl _, by dsimp only; omega, by dsimp only; omega, by dsimp only; omega, by dsimp only; omega⟩
set_option maxRecDepth 100000 in
set_option maxHeartbeats 2000000 in
theorem twice_out {LI : World → (Nat → Prop) → Nat → Nat → LogD → Prop} (S : WalOK LI) (n : Int) (A : Option Addr) (l c : Nat) (m : l ≤ 9223372036854775807) (keep tear : Int) (M : Option Addr) (lm cm : Nat) (mm : lm ≤ 9223372036854775807) (h : n < 1 ∨ 200 < n ∨ 30 < l ∨ 20 < lm) (w : World) :
    Calls Try.prog 4 #[.int .i64 n, .slice A l c, .int .i64 keep, .int .i64 tear, .slice M lm cm] w fun e w' => e = .returned (.bool true) ∧ Below w.heap.size w w' := by
  have c0 : ∀ W, Calls Try.prog 8 #[] W fun e w' => e = .returned (.bool true) ∧ Below W.heap.size W w' := fun W => alive5 S W
  clear S
  have key : ∀ a b d e : Bool, decide (n < 1) = a → decide (200 < n) = b → decide ((30 : Int) < (l : Int)) = d → decide ((20 : Int) < (lm : Int)) = e → (a || b || d || e) = true →
      Calls Try.prog 4 #[.int .i64 n, .slice A l c, .int .i64 keep, .int .i64 tear, .slice M lm cm] w fun e w' => e = .returned (.bool true) ∧ Below w.heap.size w w' := by
    intro a b d e ha hb hd he hor
    cases a <;> cases b <;> cases d <;> cases e <;> first | (exfalso; revert hor; decide) | skip
    all_goals
      clear hor h
      go_enter Try.func4, Try.ntmps4
      go_wp2_with fail
      (with_reducible refine (c0 _).mono ?_)
      rintro e w1 ⟨rfl, k1⟩
      go_wp2
      go_ret
      exact ⟨rfl, k1⟩
  refine key _ _ _ _ rfl rfl rfl rfl ?_
  simp only [Bool.or_eq_true, decide_eq_true_eq]
  omega
set_option maxRecDepth 100000 in
set_option maxHeartbeats 4000000 in
theorem twice_in {LI : World → (Nat → Prop) → Nat → Nat → LogD → Prop} (S : WalOK LI) (N : Nat) (h1 : 1 ≤ N) (h2 : N ≤ 200) (A : Option Addr) (l c : Nat) (Ls : List (List RecD)) (hl : Ls.length = l) (h30 : l ≤ 30) (ok : ∀ ls ∈ Ls, ∀ r ∈ ls, okR r) (keep tear : Int) (M : Option Addr) (lm cm : Nat) (ms : List RecD) (hlm : ms.length = lm) (h20m : lm ≤ 20) (okm : ∀ r ∈ ms, okR r) (w : World) (g : GoodL A Ls w) (gm : GoodR M cm ms w) :
    Calls Try.prog 4 #[.int .i64 (N : Int), .slice A l c, .int .i64 keep, .int .i64 tear, .slice M lm cm] w fun e w' => e = .returned (.bool true) ∧ Below w.heap.size w w' := by
  have c0 : ∀ W, Calls Try.prog 8 #[] W fun e w' => e = .returned (.bool true) ∧ Below W.heap.size W w' := fun W => alive5 S W
  have d1 : decide ((N : Int) < 1) = false := by simp; omega
  have d2 : decide ((200 : Int) < (N : Int)) = false := by simp; omega
  have d3 : decide ((30 : Int) < (l : Int)) = false := by simp; omega
  have d4 : decide ((20 : Int) < (lm : Int)) = false := by simp; omega
  have F1 := fun W => begin5 S N h1 (by omega) W
  have HK := Lib.hid S
  have HL := Lib.hid hl
  have HLM := Lib.hid hlm
  clear S hlm
  go_enter Try.func4, Try.ntmps4
  go_wp2_with fail
  (with_reducible refine (c0 _).mono ?_)
  rintro e w0 ⟨rfl, k0⟩
  clear c0
  go_wp2_with fail
  refine (F1 _).mono ?_
  rintro e w1 ⟨db, lb, FL, FD, rfl, hs, hfl, hfd, k1⟩
  clear F1
  have h0 : LHas LI w.heap.size w (fun _ => False) w1 lb db N (newS N) g0 := ⟨⟨FL, FD, hs, fun k hk => ⟨Nat.le_trans k0.size (hfl k hk), fun e => e⟩, fun k hk => ⟨Nat.le_trans k0.size (hfd k hk), fun e => e⟩⟩, below_more k0 k1 (Nat.le_refl _), Nat.le_trans k0.size k1.size⟩
  clear hs hfl hfd k1 k0
  go_wp2
  go_loopw [13] (fun i wr => ∃ j : Nat, j ≤ l ∧ i = .int .i64 j ∧ ∃ R lg st, App N R 0 lg st ∧ LHas LI w.heap.size w (fun _ => False) wr lb db N st lg ∧ R.flatten.length ≤ 20 * j) (fun i _ => l - (intOf i).toNat)
  case atStart => exact ⟨0, Nat.zero_le _, rfl, [], g0, newS N, App.start N, h0, by simp⟩
  case round =>
    obtain ⟨j, hj, rfl, R, lg, st, hap, hh, hlen⟩ := hrel
    clear h0
    have hbel := hh.below
    by_cases hlt : j < l
    · have hjl : j < Ls.length := by omega
      have okl := ok _ (List.getElem_mem hjl)
      obtain ⟨b, off, A', c', rfl, hbl, hcell, gl⟩ := (g.below hbel).at_ j hjl
      generalize Ls[j] = ls at *
      obtain ⟨ll, hll⟩ : ∃ ll, ls.length = ll := ⟨_, rfl⟩
      rw [hll] at hcell
      by_cases h20 : 20 < ll
      · have d20 : decide ((20 : Int) < (ll : Int)) = true := by simp; omega
        have hb := Lib.hid hbel
        clear hh gl hbel
        go_wp2
        go_ret
        exact ⟨rfl, hb.out⟩
      · have d20 : decide ((20 : Int) < (ll : Int)) = false := by simp; omega
        by_cases hq : fitsE N lg ls 0 0 = 0
        · have happ := hap.append okl hq
          have hcl := hap.cache_le
          have hnl := happ.le
          rw [rowsN_snoc] at hnl
          have F2 := hh.does (fun k h => h.elim) (fun FL FD hs => HK.out.app_yes FL FD lb db N st lg A' ll c' ls 0 _ hs hll (by omega) okl gl i64_0 (by show st.cache.length + secsN (joinL ls) ≤ 999; omega) hq)
          clear hh hbel gl hcl hnl hq
          go_wp2_with fail
          (with_reducible refine F2.mono ?_)
          rintro e w2 ⟨rfl, h2', _⟩
          clear F2
          go_wp2
          go_roundw
          case rel => exact ⟨j + 1, by omega, by go_num, _, _, _, happ, h2', by rw [flatten_snoc, List.length_append]; omega⟩
          case measure => simp [intOf]; omega
        · obtain ⟨q, hqq⟩ : ∃ q, fitsE N lg ls 0 0 = q := ⟨_, rfl⟩
          rw [hqq] at hq
          have F2 := hh.does (fun k h => h.elim) (fun FL FD hs => HK.out.app_no FL FD lb db N st lg A' ll c' ls 0 q _ hs hll (by omega) okl gl i64_0 hqq hq)
          clear hh hbel gl hqq hq
          go_wp2_with fail
          (with_reducible refine F2.mono ?_)
          rintro e w2 ⟨rfl, h2', _⟩
          clear F2
          go_wp2
          go_roundw
          case rel => exact ⟨j + 1, by omega, by go_num, _, _, _, hap, h2', by omega⟩
          case measure => simp [intOf]; omega
    · obtain rfl : j = l := by omega
      have hcl := hap.cache_le
      obtain ⟨m, q, hm, hq, _, hon, htl, ht⟩ := hap.crash (by omega) keep tear
      have hle := hap.le
      have hR := hap.right
      have F3 := hh.disk.crash (fun k h => h.elim) keep tear (by omega)
      have hxl : (R.flatten.take q).length = q := by rw [List.length_take]; omega
      have hq600 : q ≤ 600 := by omega
      have HXL := Lib.hid hxl
      have HT := Lib.hid ht
      have HOK := Lib.hid (log_small N m (by omega) (by omega))
      have HEND := Lib.hid (fun hf => twice_end hR (by omega) hon htl (more := ms) okm hf)
      have HC0 : Hid ((crashS st keep tear).cache = []) := Lib.hid rfl
      have HTW : Hid (crashS (crashS st keep tear) tear keep = crashS st keep tear) := Lib.hid rfl
      clear hon htl ht hap hle hcl hm hxl hR hh hbel
      generalize R.flatten.take q = xs at *
      generalize crashS st keep tear = st1 at *
      go_wp2_with fail
      (with_reducible refine F3.mono ?_)
      rintro e w2 ⟨rfl, h2', _⟩
      clear F3
      go_wp2_with fail
      refine (h2'.opens HK.out (fun k h => h.elim) HT.out HOK.out).mono ?_
      rintro e w3 ⟨lb2, v1, rfl, o3, h3, k3⟩
      have d3' := h3.disk
      have hX3 : ∀ k, (False ∨ v1.ownBlock = some k) → k < w3.heap.size := fun k hk => hk.elim (fun e => e.elim) (fun e => (ownsR_ge o3 k e).2)
      clear h2' h3 k3
      have F4 := d3'.crash hX3 tear keep (by rw [HC0.out]; exact Nat.zero_le _)
      rw [HTW.out] at F4
      clear d3'
      go_wp2_with fail
      (with_reducible refine F4.mono ?_)
      rintro e w4 ⟨rfl, h4, t4⟩
      have o4 := t4.ownsR o3 (fun k hk => .inr hk)
      have hX4 : ∀ k, (False ∨ v1.ownBlock = some k) → k < w4.heap.size := fun k hk => Nat.lt_of_lt_of_le (hX3 k hk) t4.1
      clear F4 o3 hX3 t4
      go_wp2_with fail
      refine (h4.opens HK.out hX4 HT.out HOK.out).mono ?_
      rintro e w5 ⟨lb3, v2, rfl, o5, h5, k5⟩
      have o4' := o4.below k5
      have h4s := h4.size
      have k54 := Nat.le_refl w4.heap.size
      clear h4 o4
      obtain ⟨A1, c1, rfl, ga⟩ := o4'.good
      obtain ⟨A2, c2, rfl, gb⟩ := o5.good
      have F5 := sameR A1 A2 xs q c1 c2 HXL.out (by omega) w5 ga gb
      rw [HXL.out] at h5 hX4 o5 ⊢
      clear ga gb o4'
      have hX5 : ∀ k, (Value.slice A2 q c2).ownBlock = some k → k < w5.heap.size := fun k hk => (ownsR_ge o5 k hk).2
      have h5 := h5.addX HK.out (X' := fun k => (Value.slice A2 q c2).ownBlock = some k) (fun k hk => .inl (.inr hk))
      go_wp2_with fail
      (with_reducible refine F5.mono ?_)
      rintro e w6 ⟨rfl, k6⟩
      have h6 := h5.keep HK.out k6
      have o6 := (o5.below k6).base (B' := w.heap.size) (Nat.le_trans (Nat.le_trans h4s k54) (Nat.le_refl _))
      have gm6 := gm.below h6.below
      have hX6 : ∀ k, (Value.slice A2 q c2).ownBlock = some k → k < w6.heap.size := fun k hk => Nat.lt_of_lt_of_le (hX5 k hk) k6.size
      clear h5 o5 k6 hX5 F5 hX4 k5
      have hn30 : nOf ms ≤ 40 := by
        have := joinL_le ms
        rw [HLM.out] at this
        unfold nOf secsN
        omega
      by_cases hf : fitsE N ⟨m + 1, 1, 1⟩ ms 0 0 = 0
      · have he := HEND.out hf
        have HT2 := Lib.hid he.1
        have HOK2 := Lib.hid he.2
        have F6 := h6.does hX6 (fun FL FD hs => HK.out.app_yes FL FD lb3 db N st1 ⟨m + 1, 1, 1⟩ M lm cm ms 0 _ hs HLM.out (by omega) okm gm6 i64_0 (by rw [HC0.out]; show 0 + nOf ms ≤ 999; omega) hf)
        have HCL : Hid ((appS N ⟨m + 1, 1, 1⟩ st1 ms).cache.length ≤ 1000) := Lib.hid (by
          show (st1.cache ++ puts N (laySecs (m + 1) 1 (joinL ms))).length ≤ 1000
          rw [HC0.out, List.nil_append, puts_length, laySecs_length]
          show nOf ms ≤ 1000
          omega)
        clear he hf HEND h6 gm6
        generalize appS N ⟨m + 1, 1, 1⟩ st1 ms = st2 at *
        generalize appL ⟨m + 1, 1, 1⟩ ms = lg2 at *
        generalize (⟨m + 1 + nOf ms, 1, 1⟩ : LogD) = lg3 at *
        go_wp2_with fail
        (with_reducible refine F6.mono ?_)
        rintro e w7 ⟨rfl, h7, t7⟩
        have o7 := t7.ownsR o6 (fun k hk => hk)
        have gm7 := gm.below h7.below
        clear F6 o6 t7 hX6
        obtain ⟨nl, hnl⟩ : ∃ nl, (xs ++ ms).length = nl := ⟨_, rfl⟩
        have hnl2 : nl ≤ 2000 := by rw [← hnl, List.length_append, HXL.out, HLM.out]; omega
        have HNL := Lib.hid hnl
        clear hnl
        go_wp2_with (first
          | (at_builtin; refine wpList_appendL rfl _ _ rfl w.heap.size (.slice A2 q c2) xs rfl o7 M ms lm cm rfl HLM.out gm7 (by rw [HXL.out, HLM.out]; omega) h7.size ?_; intro v8 w8 o8 gr8 nn8 at8; have h8 := h7.grow HK.out gr8 (X' := fun k => v8.ownBlock = some k) (fun k hk => ⟨hk, (ownsR_ge o7 k hk).1⟩) at8; have hX8 : ∀ k, v8.ownBlock = some k → k < w8.heap.size := (fun k hk => (ownsR_ge o8 k hk).2); have F8 := h8.does hX8 (fun FL FD hs => HK.out.force FL FD lb3 db N st2 lg2 _ hs HCL.out); clear o7 gm7 gr8 nn8 at8 h7 h8)
          | (go_at_call 11; (with_reducible refine F8.mono ?_); rintro e w9 ⟨rfl, h9, t9⟩; have o9 := t9.ownsR o8 (fun k hk => hk); have hX9 : ∀ k, v8.ownBlock = some k → k < w9.heap.size := (fun k hk => Nat.lt_of_lt_of_le (hX8 k hk) t9.1); have F9 := h9.disk.opens HK.out hX9 HT2.out HOK2.out; clear F8 o8 t9 hX8 h9)
          | (go_at_call 13; refine F9.mono ?_; rintro e w10 ⟨lb4, v10, rfl, o10, h10, k10⟩; have o9' := o9.below k10; obtain ⟨A8, c8, rfl, g8⟩ := o9'.good; obtain ⟨A10, c10, rfl, g10⟩ := o10.good; have F10 := sameR A10 A8 (xs ++ ms) nl c10 c8 HNL.out hnl2 w10 g10 g8; rw [HNL.out]; have hb := Lib.hid (fun w' (kk : Below w10.heap.size w10 w') => h10.below.trans (kk.mono h10.size)); clear F9 o9 o9' o10 h10 k10 g8 g10 hX9)
          | (go_at_call 14; (with_reducible refine F10.mono ?_); rintro e w11 ⟨rfl, k11⟩; have hb2 := Lib.hid (hb.out _ k11)))
        go_ret
        exact ⟨rfl, hb2.out⟩
      · obtain ⟨qe, hqe⟩ : ∃ qe, fitsE N ⟨m + 1, 1, 1⟩ ms 0 0 = qe := ⟨_, rfl⟩
        rw [hqe] at hf
        have hqb : (qe == 0) = false := by simpa using hf
        have F6 := h6.does hX6 (fun FL FD hs => HK.out.app_no FL FD lb3 db N st1 ⟨m + 1, 1, 1⟩ M lm cm ms 0 qe _ hs HLM.out (by omega) okm gm6 i64_0 hqe hf)
        have HFL : Hid (flushS st1 = st1) := Lib.hid (flush_nil HC0.out)
        clear hf hqe HEND h6 gm6
        go_wp2_with fail
        (with_reducible refine F6.mono ?_)
        rintro e w7 ⟨rfl, h7, t7⟩
        have o7 := t7.ownsR o6 (fun k hk => hk)
        have hX7 : ∀ k, (Value.slice A2 q c2).ownBlock = some k → k < w7.heap.size := fun k hk => Nat.lt_of_lt_of_le (hX6 k hk) t7.1
        clear F6 o6 t7 hX6
        go_wp2_with fail
        (with_reducible refine (h7.does hX7 (fun FL FD hs => HK.out.force FL FD lb3 db N st1 ⟨m + 1, 1, 1⟩ _ hs (by rw [HC0.out]; simp))).mono ?_)
        rintro e w8 ⟨rfl, h8, t8⟩
        rw [HFL.out] at h8
        have o8 := t8.ownsR o7 (fun k hk => hk)
        have hX8 : ∀ k, (Value.slice A2 q c2).ownBlock = some k → k < w8.heap.size := fun k hk => Nat.lt_of_lt_of_le (hX7 k hk) t8.1
        clear h7 o7 t8 hX7
        go_wp2_with fail
        refine (h8.disk.opens HK.out hX8 HT.out HOK.out).mono ?_
        rintro e w9 ⟨lb4, v9, rfl, o9, h9, k9⟩
        have o8' := o8.below k9
        obtain ⟨A8, c8, e8, g8⟩ := o8'.good
        injection e8 with e81 e82 e83
        subst e81 e83
        obtain ⟨A9, c9, rfl, g9⟩ := o9.good
        have F10 := sameR A9 A2 xs q c9 c2 HXL.out (by omega) w9 g9 g8
        have hb := Lib.hid (fun w' (kk : Below w9.heap.size w9 w') => h9.below.trans (kk.mono h9.size))
        rw [HXL.out]
        clear h8 o8 o8' o9 h9 k9 g8 g9 hX8 e82
        go_wp2_with fail
        (with_reducible refine F10.mono ?_)
        rintro e w10 ⟨rfl, k10⟩
        have hb2 := Lib.hid (hb.out _ k10)
        clear k10 F10
        go_wp2
        go_ret
        exact ⟨rfl, hb2.out⟩
/-- WalTwice returns true, for every input. -/
theorem walTwice_any {LI : World → (Nat → Prop) → Nat → Nat → LogD → Prop} (S : WalOK LI) (n : Int) (A : Option Addr) (l c : Nat) (Ls : List (List RecD)) (hl : Ls.length = l) (m : l ≤ 9223372036854775807) (ok : ∀ ls ∈ Ls, ∀ r ∈ ls, okR r) (keep tear : Int) (M : Option Addr) (lm cm : Nat) (ms : List RecD) (hlm : ms.length = lm) (mm : lm ≤ 9223372036854775807) (okm : ∀ r ∈ ms, okR r) (w : World) (g : GoodL A Ls w) (gm : GoodR M cm ms w) :
    Calls Try.prog 4 #[.int .i64 n, .slice A l c, .int .i64 keep, .int .i64 tear, .slice M lm cm] w fun e w' => e = .returned (.bool true) ∧ Below w.heap.size w w' := by
  by_cases h : n < 1 ∨ 200 < n ∨ 30 < l ∨ 20 < lm
  · exact twice_out S n A l c m keep tear M lm cm mm h w
  · obtain ⟨N, rfl⟩ : ∃ N : Nat, n = (N : Int) := ⟨n.toNat, by omega⟩
    exact twice_in S N (by omega) (by omega) A l c Ls hl (by omega) ok keep tear M lm cm ms hlm (by omega) okm w g gm
end Go.Proofs.Ytdmkkfpbgpijjaa
namespace Go.Proofs.Ytdmkkfpbgpijjaa
open Go.RowKit Go.Deep
set_option linter.unusedVariables false

set_option maxRecDepth 100000 in
set_option maxHeartbeats 2000000 in
theorem sameR_some (A A' : Option Addr) (xs ys : List RecD) (l c c' : Nat) (hl : xs.length = l) (hl' : ys.length = l) (hl2 : l ≤ 2000) (w : World) (g : GoodR A c xs w) (g' : GoodR A' c' ys w) :
    Calls Try.prog 14 #[.slice A l c, .slice A' l c'] w fun e w' => ∃ o : Bool, e = .returned (.bool o) ∧ Below w.heap.size w w' := by
  have hne : ((l : Int) != (l : Int)) = false := by simp
  have HL := Lib.hid hl
  have HL' := Lib.hid hl'
  clear hl hl'
  go_enter Try.func14, Try.ntmps14
  go_wp2
  go_loopw [5] (fun i wr => ∃ k : Nat, k ≤ l ∧ i = .int .i64 k ∧ Dr w wr) (fun i _ => l - (intOf i).toNat)
  case atStart => exact ⟨0, Nat.zero_le _, rfl, Dr.refl w⟩
  case round =>
    obtain ⟨k, hk, rfl, n, rfl⟩ := hrel
    by_cases hlt : k < l
    · have hkl : k < xs.length := by have := HL.out; omega
      have hkl' : k < ys.length := by have := HL'.out; omega
      obtain ⟨b, off, rfl, hb, hro⟩ := g.cells k hkl
      obtain ⟨b', off', rfl, hb', hro'⟩ := g'.cells k hkl'
      have hN' : ∀ (W : World), (binOp .neq 48 (recV xs[k]) (recV ys[k])).run Try.prog W = .ok (.bool (!eqR xs[k] ys[k])) W := fun W => run_neqR _ _ W
      generalize xs[k] = r at *
      generalize ys[k] = s at *
      have hN : ∀ (W : World), (binOp .neq 48 (.agg #[.int .i64 r.kind, .int .i64 r.tx, .int .u16 r.mask, .int .u8 r.k0, .int .u8 r.k1, .int .u8 r.k2, .int .u8 r.k3, .bool r.oT, .int .i64 r.oN, .bool r.nT, .int .i64 r.nN]) (.agg #[.int .i64 s.kind, .int .i64 s.tx, .int .u16 s.mask, .int .u8 s.k0, .int .u8 s.k1, .int .u8 s.k2, .int .u8 s.k3, .bool s.oT, .int .i64 s.oN, .bool s.nT, .int .i64 s.nN])).run Try.prog W = .ok (.bool (!eqR r s)) W := hN'
      clear hN'
      have p0 : w.cell? ⟨b, off + k * 11, none⟩ = some (.int .i64 r.kind) := hro 0 _ rfl
      have p1 : w.cell? ⟨b, off + k * 11 + 1, none⟩ = some (.int .i64 r.tx) := hro 1 _ rfl
      have p2 : w.cell? ⟨b, off + k * 11 + 2, none⟩ = some (.int .u16 r.mask) := hro 2 _ rfl
      have p3 : w.cell? ⟨b, off + k * 11 + 3, none⟩ = some (.int .u8 r.k0) := hro 3 _ rfl
      have p4 : w.cell? ⟨b, off + k * 11 + 4, none⟩ = some (.int .u8 r.k1) := hro 4 _ rfl
      have p5 : w.cell? ⟨b, off + k * 11 + 5, none⟩ = some (.int .u8 r.k2) := hro 5 _ rfl
      have p6 : w.cell? ⟨b, off + k * 11 + 6, none⟩ = some (.int .u8 r.k3) := hro 6 _ rfl
      have p7 : w.cell? ⟨b, off + k * 11 + 7, none⟩ = some (.bool r.oT) := hro 7 _ rfl
      have p8 : w.cell? ⟨b, off + k * 11 + 8, none⟩ = some (.int .i64 r.oN) := hro 8 _ rfl
      have p9 : w.cell? ⟨b, off + k * 11 + 9, none⟩ = some (.bool r.nT) := hro 9 _ rfl
      have p10 : w.cell? ⟨b, off + k * 11 + 10, none⟩ = some (.int .i64 r.nN) := hro 10 _ rfl
      have q0 : w.cell? ⟨b', off' + k * 11, none⟩ = some (.int .i64 s.kind) := hro' 0 _ rfl
      have q1 : w.cell? ⟨b', off' + k * 11 + 1, none⟩ = some (.int .i64 s.tx) := hro' 1 _ rfl
      have q2 : w.cell? ⟨b', off' + k * 11 + 2, none⟩ = some (.int .u16 s.mask) := hro' 2 _ rfl
      have q3 : w.cell? ⟨b', off' + k * 11 + 3, none⟩ = some (.int .u8 s.k0) := hro' 3 _ rfl
      have q4 : w.cell? ⟨b', off' + k * 11 + 4, none⟩ = some (.int .u8 s.k1) := hro' 4 _ rfl
      have q5 : w.cell? ⟨b', off' + k * 11 + 5, none⟩ = some (.int .u8 s.k2) := hro' 5 _ rfl
      have q6 : w.cell? ⟨b', off' + k * 11 + 6, none⟩ = some (.int .u8 s.k3) := hro' 6 _ rfl
      have q7 : w.cell? ⟨b', off' + k * 11 + 7, none⟩ = some (.bool s.oT) := hro' 7 _ rfl
      have q8 : w.cell? ⟨b', off' + k * 11 + 8, none⟩ = some (.int .i64 s.oN) := hro' 8 _ rfl
      have q9 : w.cell? ⟨b', off' + k * 11 + 9, none⟩ = some (.bool s.nT) := hro' 9 _ rfl
      have q10 : w.cell? ⟨b', off' + k * 11 + 10, none⟩ = some (.int .i64 s.nN) := hro' 10 _ rfl
      clear hro hro' hkl hkl'
      cases heq : eqR r s with
      | true =>
        rw [heq] at hN
        go_wp2
        go_quiet (fail)
        go_wp2
        go_roundw
        case rel => exact ⟨k + 1, by omega, by go_num, Dr.of _⟩
        case measure => simp [intOf]; omega
      | false =>
        rw [heq] at hN
        go_wp2
        go_quiet (fail)
        go_wp2
        go_ret
        exact ⟨false, rfl, (Dr.of2 _ _).below _ (Nat.le_refl _)⟩
    · obtain rfl : k = l := by omega
      go_wp2
      go_ret
      exact ⟨true, rfl, (Dr.of _).below _ (Nat.le_refl _)⟩
/-! ### a checkpoint behind what was forced -/
theorem carry_on (N : Nat) (L : List Sec) (hL : Numbered L) (hN : L.length ≤ N) (j : Nat) (hj : j ≤ L.length) : OnD N (carry (zeroD N) (puts N (L.take j))) L j := by
  refine ⟨by rw [length_carry]; simp [zeroD], hj, hN, fun i h => ?_, fun i h1 h2 => ?_⟩
  · rw [carry_puts N L hL hN j hj i (by omega), dif_pos ⟨h, by omega⟩]
  · exact counts_zero (by rw [carry_puts N L hL hN j hj i h2, dif_neg (by omega)])
/-- The sectors f to m of a row that is on a disk. -/
theorem ond_from {N : Nat} {S : List (List Int)} {L : List Sec} {m : Nat} (h : OnD N S L m) (hL : Numbered L) (ok : ∀ s ∈ L, okS s) (f : Nat) (hf : 1 ≤ f) (hm : f ≤ m) (hlast : ∀ s, L[m - 1]? = some s → s.first = f) (rs : List RecD) (hr : tellR ((L.take m).drop (f - 1)) = some rs) : tells S = some (⟨m + 1, f, f⟩, rs) := by
  have hl := h.le
  have hlt := h.lt
  have hlen : ((L.take m).drop (f - 1)).length = m - f + 1 := by rw [List.length_drop, List.length_take]; omega
  refine tells_of S f m _ rs hf hm (by rw [h.len]; omega) hlen (fun i hi => ?_) (fun hi => ?_) (fun i hi => ?_) hr
  · rw [hlen] at hi
    rw [List.getElem_drop, List.getElem_take]
    have := secN_at (s := L[f - 1 + i]'(by omega)) h.len (i := f - 1 + i) (by omega) (ok _ (List.getElem_mem _)) (hL _ (by omega)) (h.at_ _ (by omega))
    rw [show f - 1 + i + 1 = f + i by omega] at this
    exact this
  · rw [List.getElem_drop, List.getElem_take]
    have e : f - 1 + (m - f) = m - 1 := by omega
    simp only [e]
    exact hlast _ (List.getElem?_eq_getElem (by omega))
  · rw [h.len] at hi
    rcases Nat.lt_or_ge i m with h1 | h1
    · rw [counts_le h.len hi (ok _ (List.getElem_mem (by omega))) (hL i (by omega)) (h.at_ i h1)]
      omega
    · rw [h.rest i h1 hi]; omega
/-- What was written: old, forced; a checkpoint of base; more. -/
def chkLog (old base more : List RecD) : List Sec := secsRows 1 1 [old] ++ (chkSecs ⟨1 + nOf old, 1, 1⟩ base ++ laySecs (1 + nOf old + nOf base + 1) (1 + nOf old) (joinL more))
theorem chkLog_len (old base more : List RecD) : (chkLog old base more).length = nOf old + (nOf base + 1) + nOf more := by
  unfold chkLog
  rw [List.length_append, List.length_append, secsRows_length, chk_length, laySecs_length]
  simp [rowsN, nOf]; omega
theorem chkLog_num (old base more : List RecD) : Numbered (chkLog old base more) := by
  apply From.numbered
  unfold chkLog
  have hl : (secsRows 1 1 [old]).length = nOf old := by rw [secsRows_length]; simp [rowsN, nOf]
  refine (from_rows [old] 1 1).append ?_
  rw [hl]
  refine (from_chk ⟨1 + nOf old, 1, 1⟩ base).append ?_
  rw [chk_length]
  exact from_lay _ _ _
theorem chkLog_ok (old base more : List RecD) (h1 : RightL old) (h2 : RightL base) (h3 : RightL more) (hn : nOf old + (nOf base + 1) + nOf more ≤ 512) : ∀ s ∈ chkLog old base more, okS s := by
  intro s hs
  unfold chkLog at hs
  rw [List.mem_append, List.mem_append] at hs
  rcases hs with hs | hs | hs
  · exact secsRows_ok [old] (fun l hl => by simp at hl; subst hl; exact h1) 1 (by omega) 1 (by simp [rowsN]; unfold nOf at hn; omega) s hs
  · exact chk_ok _ _ h2 (by dsimp only; omega) (by dsimp only; omega) s hs
  · exact laySecs_ok _ _ _ (rights_bytes h3) (by unfold nOf at *; omega) (by omega) s hs
/-- Ahead of the checkpoint's last sector: what was there, and a beginning of the checkpoint's records. -/
theorem chk_old (old base more : List RecD) (h1 : RightL old) (h2 : RightL base) (m : Nat) (hm : nOf old ≤ m) (hm2 : m ≤ nOf old + nOf base) :
    ∃ q, old.length ≤ q ∧ q ≤ old.length + base.length ∧ tellR ((chkLog old base more).take m) = some ((old ++ base).take q) ∧ (∀ s ∈ (chkLog old base more).take m, s.first = 1) ∧ (m = 0 → (old ++ base).take q = []) := by
  have e : (chkLog old base more).take m = (secsRows 1 1 [old, base]).take m := by
    have e1 : chkLog old base more = secsRows 1 1 [old, base] ++ ([⟨1 + nOf old + nOf base, 1 + nOf old, [], true⟩] ++ laySecs (1 + nOf old + nOf base + 1) (1 + nOf old) (joinL more)) := by
      unfold chkLog chkSecs
      simp [secsRows, nOf]
    have hl : (secsRows 1 1 [old, base]).length = nOf old + nOf base := by rw [secsRows_length]; simp [rowsN, nOf]
    rw [e1, List.take_append_of_le_length (by omega)]
  rw [e]
  obtain ⟨q, q1, q2, q3, q4⟩ := tell_first [old, base] (fun l hl => by simp at hl; rcases hl with rfl | rfl; exact h1; exact h2) m (by simp [rowsN]; unfold nOf at hm2; omega)
  have ef : ([old, base] : List (List RecD)).flatten = old ++ base := by simp
  rw [ef] at q1 q2 q4
  have h5 := q3 1 (by simp [rowsN]; unfold nOf at hm; omega)
  exact ⟨q, by simpa using h5, by simpa using q1, q2, fun s hs => firsts_rows _ 1 1 s (List.mem_of_mem_take hs), q4⟩
/-- Behind it: the checkpoint's records, and a beginning of the rest. -/
theorem chk_new (old base more : List RecD) (h2 : RightL base) (h3 : RightL more) (m : Nat) (hm : nOf old + nOf base + 1 ≤ m) (hm2 : m ≤ nOf old + (nOf base + 1) + nOf more) :
    ∃ q, q ≤ more.length ∧ tellR (((chkLog old base more).take m).drop (nOf old)) = some (base ++ more.take q) ∧ (nOf old + (nOf base + 1) + nOf more ≤ m → q = more.length) ∧ ∀ s, (chkLog old base more)[m - 1]? = some s → s.first = 1 + nOf old := by
  have hl : (secsRows 1 1 [old]).length = nOf old := by rw [secsRows_length]; simp [rowsN, nOf]
  have hc := chk_length ⟨1 + nOf old, 1, 1⟩ base
  have hml := laySecs_length (1 + nOf old + nOf base + 1) (1 + nOf old) (joinL more)
  have e : ((chkLog old base more).take m).drop (nOf old) = chkSecs ⟨1 + nOf old, 1, 1⟩ base ++ (laySecs (1 + nOf old + nOf base + 1) (1 + nOf old) (joinL more)).take (m - nOf old - (nOf base + 1)) := by
    unfold chkLog
    rw [List.take_append, hl, List.take_of_length_le (by omega), List.drop_append_of_le_length (by omega), List.drop_of_length_le (by omega), List.nil_append, List.take_append, hc, List.take_of_length_le (by omega)]
  rw [e]
  obtain ⟨q, q1, q2, q3⟩ := tellR_chk ⟨1 + nOf old, 1, 1⟩ base more h2 h3 (1 + nOf old + nOf base + 1) (1 + nOf old) (m - nOf old - (nOf base + 1)) (by omega)
  refine ⟨q, q1, q2, fun h => q3 (by omega), fun s hs => ?_⟩
  unfold chkLog at hs
  rw [List.getElem?_append_right (by omega), hl] at hs
  rcases Nat.lt_or_ge (m - 1 - nOf old) (nOf base + 1) with h1 | h1
  · have h4 : m - 1 - nOf old = nOf base := by omega
    rw [List.getElem?_append_left (by omega), h4] at hs
    unfold chkSecs at hs
    rw [List.getElem?_append_right (by rw [laySecs_length]; unfold nOf; omega), laySecs_length] at hs
    have h5 : nOf base - secsN (joinL base) = 0 := by unfold nOf; omega
    rw [h5] at hs
    simp at hs
    rw [← hs]
  · rw [List.getElem?_append_right (by omega)] at hs
    exact firsts_lay _ _ _ _ (List.mem_of_getElem? hs)
end Go.Proofs.Ytdmkkfpbgpijjaa
namespace Go.Proofs.Ytdmkkfpbgpijjaa
open Go.RowKit Go.Deep
set_option linter.unusedVariables false

def lgF (os : List RecD) : LogD := forL (appL g0 os)
def lgC (os bs : List RecD) : LogD := chkL (lgF os) bs
def stF (N : Nat) (os : List RecD) : St := flushS (appS N g0 (newS N) os)
def stC (N : Nat) (os bs : List RecD) : St := chkS N (lgF os) (stF N os) bs
def stM (N : Nat) (os bs ms : List RecD) : St := appS N (lgC os bs) (stC N os bs) ms
structure ChkOK (N : Nat) (os bs ms : List RecD) : Prop where
  oo : ∀ r ∈ os, okR r
  ob : ∀ r ∈ bs, okR r
  om : ∀ r ∈ ms, okR r
  f1 : fitsE N g0 os 0 0 = 0
  f2 : fitsE N (lgF os) bs 1 0 = 0
  f3 : fitsE N (lgC os bs) ms 0 0 = 0
  hN : N ≤ 512
theorem ChkOK.len {N : Nat} {os bs ms : List RecD} (h : ChkOK N os bs ms) : nOf os + (nOf bs + 1) + nOf ms ≤ N := by
  obtain ⟨_, _, f3, _⟩ := fits_ok h.f3
  have e1 : (lgC os bs).next = 1 + nOf os + nOf bs + 1 := rfl
  have e2 : (lgC os bs).sure = 1 := rfl
  omega
theorem ChkOK.right {N : Nat} {os bs ms : List RecD} (h : ChkOK N os bs ms) : RightL os ∧ RightL bs ∧ RightL ms := ⟨rightL_of (fits_ok h.f1).1 h.oo, rightL_of (fits_ok h.f2).1 h.ob, rightL_of (fits_ok h.f3).1 h.om⟩
theorem chk_parts (N : Nat) (os bs ms : List RecD) : (stM N os bs ms).safe = carry (zeroD N) (puts N ((chkLog os bs ms).take (nOf os))) ∧ (stM N os bs ms).cache = puts N ((chkLog os bs ms).drop (nOf os)) := by
  have hl : (secsRows 1 1 [os]).length = nOf os := by rw [secsRows_length]; simp [rowsN, nOf]
  have el : secsRows 1 1 [os] = laySecs 1 1 (joinL os) := by simp [secsRows]
  constructor
  · show nows (appS N g0 (newS N) os) = _
    unfold chkLog
    rw [List.take_append_of_le_length (by omega), List.take_of_length_le (by omega), el]
    rfl
  · show (([] ++ puts N (chkSecs (lgF os) bs)) ++ puts N (laySecs (lgC os bs).next (lgC os bs).first (joinL ms))) = _
    unfold chkLog
    rw [List.drop_append_of_le_length (by omega), List.drop_of_length_le (by omega), List.nil_append, List.nil_append, puts_append]
    rfl
theorem chk_logok (N m f : Nat) (h1 : 1 ≤ f) (h2 : f ≤ m) (h3 : m ≤ N) (hN : N ≤ 512) : LogOK N ⟨m + 1, f, f⟩ := ⟨h1, h1, by dsimp only; omega, by dsimp only; omega, by dsimp only; omega, by dsimp only; omega⟩
theorem chk_force {N : Nat} {os bs ms : List RecD} (h : ChkOK N os bs ms) : ∃ lg, tells (nows (flushS (stM N os bs ms))) = some (lg, bs ++ ms) ∧ LogOK N lg := by
  obtain ⟨r1, r2, r3⟩ := h.right
  have hl := h.len
  have hll := chkLog_len os bs ms
  have hN := h.hN
  have e : nows (flushS (stM N os bs ms)) = carry (zeroD N) (puts N ((chkLog os bs ms).take (chkLog os bs ms).length)) := by
    show carry (stM N os bs ms).safe (stM N os bs ms).cache = _
    rw [(chk_parts N os bs ms).1, (chk_parts N os bs ms).2, ← carry_append, ← puts_append, List.take_append_drop, List.take_length]
  have hon := carry_on N (chkLog os bs ms) (chkLog_num os bs ms) (by omega) (chkLog os bs ms).length (Nat.le_refl _)
  obtain ⟨q, q1, q2, q3, q4⟩ := chk_new os bs ms r2 r3 (chkLog os bs ms).length (by omega) (by omega)
  rw [q3 (by omega), List.take_length (l := ms)] at q2
  refine ⟨_, ?_, chk_logok N (chkLog os bs ms).length (1 + nOf os) (by omega) (by omega) (by omega) hN⟩
  rw [e]
  exact ond_from hon (chkLog_num os bs ms) (chkLog_ok os bs ms r1 r2 r3 (by omega)) (1 + nOf os) (by omega) (by omega) q4 _ (by rw [Nat.add_sub_cancel_left]; exact q2)
theorem chk_crash {N : Nat} {os bs ms : List RecD} (h : ChkOK N os bs ms) (keep tear : Int) : ∃ lg rs, tells (nows (crashS (stM N os bs ms) keep tear)) = some (lg, rs) ∧ LogOK N lg ∧ ((∃ q, os.length ≤ q ∧ q ≤ os.length + bs.length ∧ rs = (os ++ bs).take q) ∨ ∃ q, q ≤ ms.length ∧ rs = bs ++ ms.take q) := by
  obtain ⟨r1, r2, r3⟩ := h.right
  have hl := h.len
  have hll := chkLog_len os bs ms
  have hN := h.hN
  have hnum := chkLog_num os bs ms
  have hok := chkLog_ok os bs ms r1 r2 r3 (by omega)
  obtain ⟨m, hm, hon⟩ := crash_on N (chkLog os bs ms) hnum hok (by omega) (nOf os) (by omega) keep tear
  have e : nows (crashS (stM N os bs ms) keep tear) = crashL (carry (zeroD N) (puts N ((chkLog os bs ms).take (nOf os)))) (puts N ((chkLog os bs ms).drop (nOf os))) keep tear := by
    show crashL (stM N os bs ms).safe (stM N os bs ms).cache keep tear = _
    rw [(chk_parts N os bs ms).1, (chk_parts N os bs ms).2]
  rw [e]
  have hml := hon.le
  rcases Nat.lt_or_ge (nOf os + nOf bs) m with hlt | hge
  · obtain ⟨q, q1, q2, q3, q4⟩ := chk_new os bs ms r2 r3 m (by omega) (by omega)
    exact ⟨_, _, ond_from hon hnum hok (1 + nOf os) (by omega) (by omega) q4 _ (by rw [Nat.add_sub_cancel_left]; exact q2), chk_logok N m (1 + nOf os) (by omega) (by omega) (by omega) hN, .inr ⟨q, q1, rfl⟩⟩
  · obtain ⟨q, q1, q2, q3, q4, q5⟩ := chk_old os bs ms r1 r2 m hm hge
    exact ⟨_, _, ond_tells hon hnum hok q4 _ q3 q5, log_small N m (by omega) hN, .inl ⟨q, q1, q2, rfl⟩⟩
theorem DHas.grow {B : Nat} {w0 : World} {X X' : Nat → Prop} {w w' : World} {db N : Nat} {st : St} {row : Option Nat} (h : DHas B w0 X w db N st) (hg : w.grownBy w' row) (hr : ∀ k, row = some k → X k ∧ B ≤ k) (hX : ∀ k, X' k → X k ∨ w.heap.size ≤ k) : DHas B w0 X' w' db N st := by
  obtain ⟨FD, hd, h2⟩ := h.ex
  have hm : Moves X w w' := moves_of_grown hg (fun k hk => (hr k hk).1)
  have hm2 : Moves (fun k => row = some k) w w' := moves_of_grown hg (fun k hk => hk)
  refine ⟨⟨FD, hd.moves hm (fun k hk x => (h2 k hk).2 x), fun k hk => ⟨(h2 k hk).1, fun x => ?_⟩⟩, h.bytes, h.below.trans (hm2.below h.size (fun k hk => (hr k hk).2)), Nat.le_trans h.size hm.size⟩
  rcases hX k x with a | a
  · exact (h2 k hk).2 a
  · have := hd.lt k hk; omega
theorem cache_stM {N : Nat} {os bs ms : List RecD} (h : ChkOK N os bs ms) : (stM N os bs ms).cache.length ≤ 600 := by
  have hl := h.len
  have hN := h.hN
  rw [(chk_parts N os bs ms).2, puts_length, List.length_drop, chkLog_len]
  omega
/-- The two rows: both, and all. -/
structure Rows2 (B : Nat) (w0 : World) (w : World) (db N : Nat) (st : St) (v u : Value) (xs ys : List RecD) : Prop where
  d : DHas B w0 (fun k => v.ownBlock = some k ∨ u.ownBlock = some k) w db N st
  v : OwnsR B w v xs
  u : OwnsR B w u ys
theorem rows_first {B : Nat} {w0 w w' : World} {db N : Nat} {st : St} {v v' : Value} {xs ys : List RecD} (h : DHas B w0 (fun k => v.ownBlock = some k) w db N st) (o : OwnsR B w v xs) (o' : OwnsR B w' v' ys) (hg : w.grownBy w' v.ownBlock) (hat : ∀ k, v'.ownBlock = some k → v.ownBlock = some k ∨ w.heap.size ≤ k) : DHas B w0 (fun k => v'.ownBlock = some k) w' db N st := h.grow hg (fun k hk => ⟨hk, (ownsR_ge o k hk).1⟩) hat
theorem Rows2.grow {B : Nat} {w0 w w' : World} {db N : Nat} {st : St} {v u u' : Value} {xs ys zs : List RecD} (h : Rows2 B w0 w db N st v u xs ys) (L : Nat) (hv : ∀ k, v.ownBlock = some k → k < L) (hu : ∀ k, u.ownBlock = some k → L ≤ k) (hLw : L ≤ w.heap.size) (o' : OwnsR B w' u' zs) (hg : w.grownBy w' u.ownBlock) (hat : ∀ k, u'.ownBlock = some k → u.ownBlock = some k ∨ w.heap.size ≤ k) : Rows2 B w0 w' db N st v u' xs zs ∧ ∀ k, u'.ownBlock = some k → L ≤ k := by
  refine ⟨⟨h.d.grow hg (fun k hk => ⟨.inr hk, (ownsR_ge h.u k hk).1⟩) (fun k hk => ?_), ownsR_stay h.v (fun k hk => hg.block k (ownsR_ge h.v k hk).2 (fun e => ?_)), o'⟩, fun k hk => ?_⟩
  · rcases hk with hk | hk
    · exact .inl (.inl hk)
    · rcases hat k hk with a | a
      · exact .inl (.inr a)
      · exact .inr a
  · have h1 := hv k hk
    have h2 := hu k e.symm
    omega
  · rcases hat k hk with a | a
    · exact hu k a
    · omega
end Go.Proofs.Ytdmkkfpbgpijjaa
namespace Go.Proofs.Ytdmkkfpbgpijjaa
open Go.RowKit Go.Deep
set_option linter.unusedVariables false

set_option maxRecDepth 100000 in
set_option maxHeartbeats 2000000 in
theorem checks_out {LI : World → (Nat → Prop) → Nat → Nat → LogD → Prop} (S : WalOK LI) (n : Int) (A1 A2 A3 : Option Addr) (l1 c1 l2 c2 l3 c3 : Nat) (keep tear : Int) (h : n < 1 ∨ 200 < n ∨ 20 < l1 ∨ 20 < l2 ∨ 20 < l3) (w : World) :
    Calls Try.prog 5 #[.int .i64 n, .slice A1 l1 c1, .slice A2 l2 c2, .slice A3 l3 c3, .int .i64 keep, .int .i64 tear] w fun e w' => e = .returned (.bool true) ∧ Below w.heap.size w w' := by
  have c0 : ∀ W, Calls Try.prog 8 #[] W fun e w' => e = .returned (.bool true) ∧ Below W.heap.size W w' := fun W => alive5 S W
  clear S
  have key : ∀ a b d e f : Bool, decide (n < 1) = a → decide (200 < n) = b → decide ((20 : Int) < (l1 : Int)) = d → decide ((20 : Int) < (l2 : Int)) = e → decide ((20 : Int) < (l3 : Int)) = f → (a || b || d || e || f) = true →
      Calls Try.prog 5 #[.int .i64 n, .slice A1 l1 c1, .slice A2 l2 c2, .slice A3 l3 c3, .int .i64 keep, .int .i64 tear] w fun e w' => e = .returned (.bool true) ∧ Below w.heap.size w w' := by
    intro a b d e f ha hb hd he hf hor
    cases a <;> cases b <;> cases d <;> cases e <;> cases f <;> first | (exfalso; revert hor; decide) | skip
    all_goals
      clear hor h
      go_enter Try.func5, Try.ntmps5
      go_wp2_with fail
      (with_reducible refine (c0 _).mono ?_)
      rintro e w1 ⟨rfl, k1⟩
      go_wp2
      go_ret
      exact ⟨rfl, k1⟩
  refine key _ _ _ _ _ rfl rfl rfl rfl rfl ?_
  simp only [Bool.or_eq_true, decide_eq_true_eq]
  omega
set_option maxRecDepth 100000 in
set_option maxHeartbeats 8000000 in
theorem checks_no1 {LI : World → (Nat → Prop) → Nat → Nat → LogD → Prop} (S : WalOK LI) (N : Nat) (h1 : 1 ≤ N) (h2 : N ≤ 200) (A1 A2 A3 : Option Addr) (l1 c1 l2 c2 l3 c3 : Nat) (os bs ms : List RecD) (hl1 : os.length = l1) (hl2 : bs.length = l2) (hl3 : ms.length = l3) (h201 : l1 ≤ 20) (h202 : l2 ≤ 20) (h203 : l3 ≤ 20) (ok1 : ∀ r ∈ os, okR r) (ok2 : ∀ r ∈ bs, okR r) (ok3 : ∀ r ∈ ms, okR r) (keep tear : Int) (q : Int) (hq : fitsE N g0 os 0 0 = q) (hq0 : q ≠ 0) (w : World) (g1 : GoodR A1 c1 os w) (g2 : GoodR A2 c2 bs w) (g3 : GoodR A3 c3 ms w) :
    Calls Try.prog 5 #[.int .i64 (N : Int), .slice A1 l1 c1, .slice A2 l2 c2, .slice A3 l3 c3, .int .i64 keep, .int .i64 tear] w fun e w' => e = .returned (.bool true) ∧ Below w.heap.size w w' := by
  have c0 : ∀ W, Calls Try.prog 8 #[] W fun e w' => e = .returned (.bool true) ∧ Below W.heap.size W w' := fun W => alive5 S W
  have d1 : decide ((N : Int) < 1) = false := by simp; omega
  have d2 : decide ((200 : Int) < (N : Int)) = false := by simp; omega
  have d3 : decide ((20 : Int) < (l1 : Int)) = false := by simp; omega
  have d4 : decide ((20 : Int) < (l2 : Int)) = false := by simp; omega
  have d5 : decide ((20 : Int) < (l3 : Int)) = false := by simp; omega
  have F1 := fun W => begin5 S N h1 (by omega) W
  have n1 : nOf os ≤ 40 := by
    have := joinL_le os
    unfold nOf secsN
    omega
  have n2 : nOf bs ≤ 40 := by
    have := joinL_le bs
    unfold nOf secsN
    omega
  have n3 : nOf ms ≤ 40 := by
    have := joinL_le ms
    unfold nOf secsN
    omega
  have HN1 := Lib.hid n1
  have HN2 := Lib.hid n2
  have HN3 := Lib.hid n3
  have HK := Lib.hid S
  have H1 := Lib.hid hl1
  have H2 := Lib.hid hl2
  have H3 := Lib.hid hl3
  clear S n1 n2 n3
  go_enter Try.func5, Try.ntmps5
  go_wp2_with fail
  (with_reducible refine (c0 _).mono ?_)
  rintro e w0 ⟨rfl, k0⟩
  clear c0
  go_wp2_with fail
  refine (F1 _).mono ?_
  rintro e w1 ⟨db, lb, FL, FD, rfl, hs, hfl, hfd, k1⟩
  have ha : LHas LI w.heap.size w (fun _ => False) w1 lb db N (newS N) g0 := ⟨⟨FL, FD, hs, fun k hk => ⟨Nat.le_trans k0.size (hfl k hk), fun e => e⟩, fun k hk => ⟨Nat.le_trans k0.size (hfd k hk), fun e => e⟩⟩, below_more k0 k1 (Nat.le_refl _), Nat.le_trans k0.size k1.size⟩
  clear hs hfl hfd k1 k0
  have ga := g1.below ha.below
  clear F1
  have hqb : (q != 0) = true := by simpa using hq0
  go_wp2_with fail
  (with_reducible refine (ha.does (fun k h => h.elim) (fun FL FD hs => HK.out.app_no FL FD lb db N (newS N) g0 A1 l1 c1 os 0 q _ hs H1.out (by omega) ok1 ga i64_0 hq hq0)).mono ?_)
  rintro e wz ⟨rfl, hz, _⟩
  have hb := Lib.hid hz.below
  clear hz ha ga
  go_wp2
  go_ret
  exact ⟨rfl, hb.out⟩
set_option maxRecDepth 100000 in
set_option maxHeartbeats 8000000 in
theorem checks_no2 {LI : World → (Nat → Prop) → Nat → Nat → LogD → Prop} (S : WalOK LI) (N : Nat) (h1 : 1 ≤ N) (h2 : N ≤ 200) (A1 A2 A3 : Option Addr) (l1 c1 l2 c2 l3 c3 : Nat) (os bs ms : List RecD) (hl1 : os.length = l1) (hl2 : bs.length = l2) (hl3 : ms.length = l3) (h201 : l1 ≤ 20) (h202 : l2 ≤ 20) (h203 : l3 ≤ 20) (ok1 : ∀ r ∈ os, okR r) (ok2 : ∀ r ∈ bs, okR r) (ok3 : ∀ r ∈ ms, okR r) (keep tear : Int) (f1 : fitsE N g0 os 0 0 = 0) (q : Int) (hq : fitsE N (lgF os) bs 1 0 = q) (hq0 : q ≠ 0) (w : World) (g1 : GoodR A1 c1 os w) (g2 : GoodR A2 c2 bs w) (g3 : GoodR A3 c3 ms w) :
    Calls Try.prog 5 #[.int .i64 (N : Int), .slice A1 l1 c1, .slice A2 l2 c2, .slice A3 l3 c3, .int .i64 keep, .int .i64 tear] w fun e w' => e = .returned (.bool true) ∧ Below w.heap.size w w' := by
  have c0 : ∀ W, Calls Try.prog 8 #[] W fun e w' => e = .returned (.bool true) ∧ Below W.heap.size W w' := fun W => alive5 S W
  have d1 : decide ((N : Int) < 1) = false := by simp; omega
  have d2 : decide ((200 : Int) < (N : Int)) = false := by simp; omega
  have d3 : decide ((20 : Int) < (l1 : Int)) = false := by simp; omega
  have d4 : decide ((20 : Int) < (l2 : Int)) = false := by simp; omega
  have d5 : decide ((20 : Int) < (l3 : Int)) = false := by simp; omega
  have F1 := fun W => begin5 S N h1 (by omega) W
  have n1 : nOf os ≤ 40 := by
    have := joinL_le os
    unfold nOf secsN
    omega
  have n2 : nOf bs ≤ 40 := by
    have := joinL_le bs
    unfold nOf secsN
    omega
  have n3 : nOf ms ≤ 40 := by
    have := joinL_le ms
    unfold nOf secsN
    omega
  have HN1 := Lib.hid n1
  have HN2 := Lib.hid n2
  have HN3 := Lib.hid n3
  have HK := Lib.hid S
  have H1 := Lib.hid hl1
  have H2 := Lib.hid hl2
  have H3 := Lib.hid hl3
  clear S n1 n2 n3
  go_enter Try.func5, Try.ntmps5
  go_wp2_with fail
  (with_reducible refine (c0 _).mono ?_)
  rintro e w0 ⟨rfl, k0⟩
  clear c0
  go_wp2_with fail
  refine (F1 _).mono ?_
  rintro e w1 ⟨db, lb, FL, FD, rfl, hs, hfl, hfd, k1⟩
  have ha : LHas LI w.heap.size w (fun _ => False) w1 lb db N (newS N) g0 := ⟨⟨FL, FD, hs, fun k hk => ⟨Nat.le_trans k0.size (hfl k hk), fun e => e⟩, fun k hk => ⟨Nat.le_trans k0.size (hfd k hk), fun e => e⟩⟩, below_more k0 k1 (Nat.le_refl _), Nat.le_trans k0.size k1.size⟩
  clear hs hfl hfd k1 k0
  have ga := g1.below ha.below
  have hcA : (newS N).cache.length + nOf os ≤ 999 := by have := HN1.out; show 0 + nOf os ≤ 999; omega
  have hcB : (stF N os).cache.length + nOf bs + 1 ≤ 999 := by have := HN2.out; show 0 + nOf bs + 1 ≤ 999; omega
  have hcF : (appS N g0 (newS N) os).cache.length ≤ 1000 := by
    show ([] ++ puts N (laySecs g0.next g0.first (joinL os))).length ≤ 1000
    rw [List.nil_append, puts_length, laySecs_length]
    have := HN1.out
    unfold nOf at this
    omega
  clear F1
  have hqb : (q != 0) = true := by simpa using hq0
  go_wp2_with fail
  (with_reducible refine (ha.does (fun k h => h.elim) (fun FL FD hs => HK.out.app_yes FL FD lb db N (newS N) g0 A1 l1 c1 os 0 _ hs H1.out (by omega) ok1 ga i64_0 hcA f1)).mono ?_)
  rintro e w2 ⟨rfl, hn, _⟩
  have hn : LHas LI w.heap.size w (fun _ => False) w2 lb db N (appS N g0 (newS N) os) (appL g0 os) := hn
  clear ha
  have ha := hn
  clear hn
  go_wp2_with fail
  (with_reducible refine (ha.does (fun k h => h.elim) (fun FL FD hs => HK.out.force FL FD lb db N (appS N g0 (newS N) os) (appL g0 os) _ hs hcF)).mono ?_)
  rintro e w3 ⟨rfl, hn, _⟩
  have hn : LHas LI w.heap.size w (fun _ => False) w3 lb db N (stF N os) (lgF os) := hn
  clear ha
  have ha := hn
  clear hn
  clear ga
  have ga := g2.below ha.below
  go_wp2_with fail
  (with_reducible refine (ha.does (fun k h => h.elim) (fun FL FD hs => HK.out.chk_no FL FD lb db N (stF N os) (lgF os) A2 l2 c2 bs 0 q _ hs H2.out (by omega) ok2 ga i64_0 hq hq0)).mono ?_)
  rintro e wz ⟨rfl, hz, _⟩
  have hb := Lib.hid hz.below
  clear hz ha ga
  go_wp2
  go_ret
  exact ⟨rfl, hb.out⟩
set_option maxRecDepth 100000 in
set_option maxHeartbeats 8000000 in
theorem checks_no3 {LI : World → (Nat → Prop) → Nat → Nat → LogD → Prop} (S : WalOK LI) (N : Nat) (h1 : 1 ≤ N) (h2 : N ≤ 200) (A1 A2 A3 : Option Addr) (l1 c1 l2 c2 l3 c3 : Nat) (os bs ms : List RecD) (hl1 : os.length = l1) (hl2 : bs.length = l2) (hl3 : ms.length = l3) (h201 : l1 ≤ 20) (h202 : l2 ≤ 20) (h203 : l3 ≤ 20) (ok1 : ∀ r ∈ os, okR r) (ok2 : ∀ r ∈ bs, okR r) (ok3 : ∀ r ∈ ms, okR r) (keep tear : Int) (f1 : fitsE N g0 os 0 0 = 0) (f2 : fitsE N (lgF os) bs 1 0 = 0) (q : Int) (hq : fitsE N (lgC os bs) ms 0 0 = q) (hq0 : q ≠ 0) (w : World) (g1 : GoodR A1 c1 os w) (g2 : GoodR A2 c2 bs w) (g3 : GoodR A3 c3 ms w) :
    Calls Try.prog 5 #[.int .i64 (N : Int), .slice A1 l1 c1, .slice A2 l2 c2, .slice A3 l3 c3, .int .i64 keep, .int .i64 tear] w fun e w' => e = .returned (.bool true) ∧ Below w.heap.size w w' := by
  have c0 : ∀ W, Calls Try.prog 8 #[] W fun e w' => e = .returned (.bool true) ∧ Below W.heap.size W w' := fun W => alive5 S W
  have d1 : decide ((N : Int) < 1) = false := by simp; omega
  have d2 : decide ((200 : Int) < (N : Int)) = false := by simp; omega
  have d3 : decide ((20 : Int) < (l1 : Int)) = false := by simp; omega
  have d4 : decide ((20 : Int) < (l2 : Int)) = false := by simp; omega
  have d5 : decide ((20 : Int) < (l3 : Int)) = false := by simp; omega
  have F1 := fun W => begin5 S N h1 (by omega) W
  have n1 : nOf os ≤ 40 := by
    have := joinL_le os
    unfold nOf secsN
    omega
  have n2 : nOf bs ≤ 40 := by
    have := joinL_le bs
    unfold nOf secsN
    omega
  have n3 : nOf ms ≤ 40 := by
    have := joinL_le ms
    unfold nOf secsN
    omega
  have HN1 := Lib.hid n1
  have HN2 := Lib.hid n2
  have HN3 := Lib.hid n3
  have HK := Lib.hid S
  have H1 := Lib.hid hl1
  have H2 := Lib.hid hl2
  have H3 := Lib.hid hl3
  clear S n1 n2 n3
  go_enter Try.func5, Try.ntmps5
  go_wp2_with fail
  (with_reducible refine (c0 _).mono ?_)
  rintro e w0 ⟨rfl, k0⟩
  clear c0
  go_wp2_with fail
  refine (F1 _).mono ?_
  rintro e w1 ⟨db, lb, FL, FD, rfl, hs, hfl, hfd, k1⟩
  have ha : LHas LI w.heap.size w (fun _ => False) w1 lb db N (newS N) g0 := ⟨⟨FL, FD, hs, fun k hk => ⟨Nat.le_trans k0.size (hfl k hk), fun e => e⟩, fun k hk => ⟨Nat.le_trans k0.size (hfd k hk), fun e => e⟩⟩, below_more k0 k1 (Nat.le_refl _), Nat.le_trans k0.size k1.size⟩
  clear hs hfl hfd k1 k0
  have ga := g1.below ha.below
  have hcA : (newS N).cache.length + nOf os ≤ 999 := by have := HN1.out; show 0 + nOf os ≤ 999; omega
  have hcB : (stF N os).cache.length + nOf bs + 1 ≤ 999 := by have := HN2.out; show 0 + nOf bs + 1 ≤ 999; omega
  have hcF : (appS N g0 (newS N) os).cache.length ≤ 1000 := by
    show ([] ++ puts N (laySecs g0.next g0.first (joinL os))).length ≤ 1000
    rw [List.nil_append, puts_length, laySecs_length]
    have := HN1.out
    unfold nOf at this
    omega
  clear F1
  have hqb : (q != 0) = true := by simpa using hq0
  go_wp2_with fail
  (with_reducible refine (ha.does (fun k h => h.elim) (fun FL FD hs => HK.out.app_yes FL FD lb db N (newS N) g0 A1 l1 c1 os 0 _ hs H1.out (by omega) ok1 ga i64_0 hcA f1)).mono ?_)
  rintro e w2 ⟨rfl, hn, _⟩
  have hn : LHas LI w.heap.size w (fun _ => False) w2 lb db N (appS N g0 (newS N) os) (appL g0 os) := hn
  clear ha
  have ha := hn
  clear hn
  go_wp2_with fail
  (with_reducible refine (ha.does (fun k h => h.elim) (fun FL FD hs => HK.out.force FL FD lb db N (appS N g0 (newS N) os) (appL g0 os) _ hs hcF)).mono ?_)
  rintro e w3 ⟨rfl, hn, _⟩
  have hn : LHas LI w.heap.size w (fun _ => False) w3 lb db N (stF N os) (lgF os) := hn
  clear ha
  have ha := hn
  clear hn
  clear ga
  have ga := g2.below ha.below
  go_wp2_with fail
  (with_reducible refine (ha.does (fun k h => h.elim) (fun FL FD hs => HK.out.chk_yes FL FD lb db N (stF N os) (lgF os) A2 l2 c2 bs 0 _ hs H2.out (by omega) ok2 ga i64_0 hcB f2)).mono ?_)
  rintro e w4 ⟨rfl, hn, _⟩
  have hn : LHas LI w.heap.size w (fun _ => False) w4 lb db N (stC N os bs) (lgC os bs) := hn
  clear ha
  have ha := hn
  clear hn
  clear ga
  have ga := g3.below ha.below
  go_wp2_with fail
  (with_reducible refine (ha.does (fun k h => h.elim) (fun FL FD hs => HK.out.app_no FL FD lb db N (stC N os bs) (lgC os bs) A3 l3 c3 ms 0 q _ hs H3.out (by omega) ok3 ga i64_0 hq hq0)).mono ?_)
  rintro e wz ⟨rfl, hz, _⟩
  have hb := Lib.hid hz.below
  clear hz ha ga
  go_wp2
  go_ret
  exact ⟨rfl, hb.out⟩
set_option maxRecDepth 100000 in
set_option maxHeartbeats 8000000 in
theorem checks_yes {LI : World → (Nat → Prop) → Nat → Nat → LogD → Prop} (S : WalOK LI) (N : Nat) (h1 : 1 ≤ N) (h2 : N ≤ 200) (A1 A2 A3 : Option Addr) (l1 c1 l2 c2 l3 c3 : Nat) (os bs ms : List RecD) (hl1 : os.length = l1) (hl2 : bs.length = l2) (hl3 : ms.length = l3) (h201 : l1 ≤ 20) (h202 : l2 ≤ 20) (h203 : l3 ≤ 20) (ok1 : ∀ r ∈ os, okR r) (ok2 : ∀ r ∈ bs, okR r) (ok3 : ∀ r ∈ ms, okR r) (keep tear : Int) (f1 : fitsE N g0 os 0 0 = 0) (f2 : fitsE N (lgF os) bs 1 0 = 0) (f3 : fitsE N (lgC os bs) ms 0 0 = 0) (w : World) (g1 : GoodR A1 c1 os w) (g2 : GoodR A2 c2 bs w) (g3 : GoodR A3 c3 ms w) :
    Calls Try.prog 5 #[.int .i64 (N : Int), .slice A1 l1 c1, .slice A2 l2 c2, .slice A3 l3 c3, .int .i64 keep, .int .i64 tear] w fun e w' => e = .returned (.bool true) ∧ Below w.heap.size w w' := by
  have c0 : ∀ W, Calls Try.prog 8 #[] W fun e w' => e = .returned (.bool true) ∧ Below W.heap.size W w' := fun W => alive5 S W
  have d1 : decide ((N : Int) < 1) = false := by simp; omega
  have d2 : decide ((200 : Int) < (N : Int)) = false := by simp; omega
  have d3 : decide ((20 : Int) < (l1 : Int)) = false := by simp; omega
  have d4 : decide ((20 : Int) < (l2 : Int)) = false := by simp; omega
  have d5 : decide ((20 : Int) < (l3 : Int)) = false := by simp; omega
  have F1 := fun W => begin5 S N h1 (by omega) W
  have n1 : nOf os ≤ 40 := by
    have := joinL_le os
    unfold nOf secsN
    omega
  have n2 : nOf bs ≤ 40 := by
    have := joinL_le bs
    unfold nOf secsN
    omega
  have n3 : nOf ms ≤ 40 := by
    have := joinL_le ms
    unfold nOf secsN
    omega
  have HN1 := Lib.hid n1
  have HN2 := Lib.hid n2
  have HN3 := Lib.hid n3
  have HK := Lib.hid S
  have H1 := Lib.hid hl1
  have H2 := Lib.hid hl2
  have H3 := Lib.hid hl3
  clear S n1 n2 n3
  go_enter Try.func5, Try.ntmps5
  go_wp2_with fail
  (with_reducible refine (c0 _).mono ?_)
  rintro e w0 ⟨rfl, k0⟩
  clear c0
  go_wp2_with fail
  refine (F1 _).mono ?_
  rintro e w1 ⟨db, lb, FL, FD, rfl, hs, hfl, hfd, k1⟩
  have ha : LHas LI w.heap.size w (fun _ => False) w1 lb db N (newS N) g0 := ⟨⟨FL, FD, hs, fun k hk => ⟨Nat.le_trans k0.size (hfl k hk), fun e => e⟩, fun k hk => ⟨Nat.le_trans k0.size (hfd k hk), fun e => e⟩⟩, below_more k0 k1 (Nat.le_refl _), Nat.le_trans k0.size k1.size⟩
  clear hs hfl hfd k1 k0
  have ga := g1.below ha.below
  have hcA : (newS N).cache.length + nOf os ≤ 999 := by have := HN1.out; show 0 + nOf os ≤ 999; omega
  have hcB : (stF N os).cache.length + nOf bs + 1 ≤ 999 := by have := HN2.out; show 0 + nOf bs + 1 ≤ 999; omega
  have hcF : (appS N g0 (newS N) os).cache.length ≤ 1000 := by
    show ([] ++ puts N (laySecs g0.next g0.first (joinL os))).length ≤ 1000
    rw [List.nil_append, puts_length, laySecs_length]
    have := HN1.out
    unfold nOf at this
    omega
  have hcC : (stC N os bs).cache.length + nOf ms ≤ 999 := by
    show (([] : List (Nat × List Int)) ++ puts N (chkSecs (lgF os) bs)).length + nOf ms ≤ 999
    rw [List.nil_append, puts_length, chk_length]
    have := HN2.out
    have := HN3.out
    omega
  have hCK : ChkOK N os bs ms := ⟨ok1, ok2, ok3, f1, f2, f3, by omega⟩
  clear ga
  have ga := g1.below (ha.below)
  go_wp2_with fail
  (with_reducible refine (ha.does (fun k h => h.elim) (fun FL FD hs => HK.out.app_yes FL FD lb db N (newS N) g0 A1 l1 c1 os 0 _ hs H1.out (by omega) ok1 ga i64_0 hcA f1)).mono ?_)
  rintro e w2 ⟨rfl, ha', tha⟩
  have ha' : LHas LI w.heap.size w (fun _ => False) w2 lb db N (appS N g0 (newS N) os) (appL g0 os) := ha'
  clear ha tha
  have ha := ha'
  clear ha'
  go_wp2_with fail
  (with_reducible refine (ha.does (fun k h => h.elim) (fun FL FD hs => HK.out.force FL FD lb db N (appS N g0 (newS N) os) (appL g0 os) _ hs hcF)).mono ?_)
  rintro e w3 ⟨rfl, ha', tha⟩
  have ha' : LHas LI w.heap.size w (fun _ => False) w3 lb db N (stF N os) (lgF os) := ha'
  clear ha tha
  have ha := ha'
  clear ha'
  clear ga
  have ga := g2.below (ha.below)
  go_wp2_with fail
  (with_reducible refine (ha.does (fun k h => h.elim) (fun FL FD hs => HK.out.chk_yes FL FD lb db N (stF N os) (lgF os) A2 l2 c2 bs 0 _ hs H2.out (by omega) ok2 ga i64_0 hcB f2)).mono ?_)
  rintro e w4 ⟨rfl, ha', tha⟩
  have ha' : LHas LI w.heap.size w (fun _ => False) w4 lb db N (stC N os bs) (lgC os bs) := ha'
  clear ha tha
  have ha := ha'
  clear ha'
  clear ga
  have ga := g3.below (ha.below)
  go_wp2_with fail
  (with_reducible refine (ha.does (fun k h => h.elim) (fun FL FD hs => HK.out.app_yes FL FD lb db N (stC N os bs) (lgC os bs) A3 l3 c3 ms 0 _ hs H3.out (by omega) ok3 ga i64_0 hcC f3)).mono ?_)
  rintro e w5 ⟨rfl, ha', tha⟩
  have ha' : LHas LI w.heap.size w (fun _ => False) w5 lb db N (stM N os bs ms) (appL (lgC os bs) ms) := ha'
  clear ha tha
  have ha := ha'
  clear ha'
  clear ga
  have D := ha.disk
  clear ha hl1 hl2 hl3
  obtain ⟨nb2, hnb2⟩ : ∃ n, ([] ++ bs ++ ms).length = n := ⟨_, rfl⟩
  have HB := Lib.hid hnb2
  obtain ⟨na, hna⟩ : ∃ n, ([] ++ os ++ ([] ++ bs ++ ms)).length = n := ⟨_, rfl⟩
  have HA := Lib.hid hna
  have hnb3 : nb2 = l2 + l3 := by rw [← hnb2, List.nil_append, List.length_append, H2.out, H3.out]
  have hna3 : na = l1 + (l2 + l3) := by rw [← hna, List.length_append, List.nil_append, List.nil_append, List.length_append, H1.out, H2.out, H3.out]
  have HB3 := Lib.hid hnb3
  have HA3 := Lib.hid hna3
  clear hnb2 hna hnb3 hna3
  have D5 := (D.addX (X' := fun k => (Value.slice (some ⟨w5.heap.size, 0, none⟩) 0 0).ownBlock = some k) (fun k hk => .inr (by injection hk with hk; exact Nat.le_of_eq hk))).keep (w' := w5.alloc (.cells #[] 48)) ((Below.refl _ _).alloc (Nat.le_refl _) _)
  have o5 : OwnsR w.heap.size (w5.alloc (.cells #[] 48)) (.slice (some ⟨w5.heap.size, 0, none⟩) 0 0) [] := (ownsR_lit5 w5).base D.size
  have ga := g2.below D5.below
  have nn5 : (Value.slice (some ⟨w5.heap.size, 0, none⟩) 0 0) ≠ .slice none 0 0 := fun e => by injection e with e; cases e
  clear D
  go_wp2_with (first
    | (at_builtin; refine wpList_appendL rfl _ _ rfl w.heap.size (.slice (some ⟨w5.heap.size, 0, none⟩) 0 0) [] rfl o5 A2 bs l2 c2 rfl H2.out ga (by rw [H2.out]; show 0 + l2 ≤ 5000; omega) D5.size ?_; intro v6 w6 o6 gr6 nn6 at6; have D6 := rows_first D5 o5 o6 gr6 at6; have nx6 := nn6 nn5; have gb := g3.below D6.below; clear D5 o5 gr6 at6 nn6 nn5 ga)
    | (at_builtin; refine wpList_appendL rfl _ _ rfl w.heap.size v6 ([] ++ bs) rfl o6 A3 ms l3 c3 rfl H3.out gb (by rw [List.nil_append, H2.out, H3.out]; omega) D6.size ?_; intro v7 w7 o7 gr7 nn7 at7; have D7 := rows_first D6 o6 o7 gr7 at7; have nx7 := nn7 nx6; have hl7 : ∀ k, v7.ownBlock = some k → k < w7.heap.size := (fun k hk => (ownsR_ge o7 k hk).2); have RR : Rows2 w.heap.size w (w7.alloc (.cells #[] 48)) db N (stM N os bs ms) v7 (.slice (some ⟨w7.heap.size, 0, none⟩) 0 0) ([] ++ bs ++ ms) [] := ⟨(D7.addX (X' := fun k => v7.ownBlock = some k ∨ (Value.slice (some ⟨w7.heap.size, 0, none⟩) 0 0).ownBlock = some k) (fun k hk => hk.elim (fun a => .inl a) (fun a => .inr (by injection a with a; exact Nat.le_of_eq a)))).keep ((Below.refl _ _).alloc (Nat.le_refl _) _), o7.below ((Below.refl _ _).alloc (Nat.le_refl _) _), (ownsR_lit5 w7).base D7.size⟩; have gc := g1.below RR.d.below; have hu7 : ∀ k, (Value.slice (some ⟨w7.heap.size, 0, none⟩) 0 0).ownBlock = some k → w7.heap.size ≤ k := (fun k hk => by injection hk with hk; exact Nat.le_of_eq hk); have hs7 : w7.heap.size ≤ (w7.alloc (.cells #[] 48)).heap.size := (by simp); have nnL : (Value.slice (some ⟨w7.heap.size, 0, none⟩) 0 0) ≠ .slice none 0 0 := (fun e => by injection e with e; cases e); clear D6 o6 gr7 at7 nn7 gb D7 o7 nx6)
    | (at_builtin; refine wpList_appendL rfl _ _ rfl w.heap.size (.slice (some ⟨w7.heap.size, 0, none⟩) 0 0) [] rfl RR.u A1 os l1 c1 rfl H1.out gc (by rw [H1.out]; show 0 + l1 ≤ 5000; omega) RR.d.size ?_; intro v9 w9 o9 gr9 nn9 at9; obtain ⟨R9, hu9⟩ := RR.grow w7.heap.size hl7 hu7 hs7 o9 gr9 at9; have nx9 := nn9 nnL; obtain ⟨A7, c7, e7, g7⟩ := R9.v.good; subst e7; rw [HB.out]; have hs9 : w7.heap.size ≤ w9.heap.size := Nat.le_trans hs7 gr9.size; clear RR o9 gr9 at9 nn9 nnL gc hu7 hs7)
    | (at_builtin; refine wpList_appendL rfl _ _ rfl w.heap.size v9 ([] ++ os) rfl R9.u A7 ([] ++ bs ++ ms) nb2 c7 rfl HB.out g7 (by rw [HB.out, List.nil_append, H1.out, HB3.out]; omega) R9.d.size ?_; intro v10 w10 o10 gr10 nn10 at10; obtain ⟨R10, hu10⟩ := R9.grow w7.heap.size hl7 hu9 hs9 o10 gr10 at10; have nx10 := nn10 nx9; clear R9 o10 gr10 at10 nn10 nx9 g7 hu9 hs9 hu10 hl7)
    | fail)
  rw [HB.out] at R10
  obtain ⟨gz, cz, e10, gz10⟩ := R10.u.there5 nx10
  subst e10
  rw [HA.out] at R10 ⊢
  clear gz10 nx10
  refine (F1 _).mono ?_
  rintro e w11 ⟨db2, lb2, FL, FD, rfl, hs, hfl, hfd, k11⟩
  have hk : LHas LI w10.heap.size w10 (fun _ => False) w11 lb2 db2 N (newS N) g0 := ⟨⟨FL, FD, hs, fun k hk => ⟨hfl k hk, fun e => e⟩, fun k hk => ⟨hfd k hk, fun e => e⟩⟩, k11, k11.size⟩
  clear hs hfl hfd k11 F1
  have ga := g1.below (R10.d.below.trans (hk.below.mono R10.d.size))
  go_wp2_with fail
  (with_reducible refine (hk.does (fun k h => h.elim) (fun FL FD hs => HK.out.app_yes FL FD lb2 db2 N (newS N) g0 A1 l1 c1 os 0 _ hs H1.out (by omega) ok1 ga i64_0 hcA f1)).mono ?_)
  rintro e w12 ⟨rfl, hk', thk⟩
  have hk' : LHas LI w10.heap.size w10 (fun _ => False) w12 lb2 db2 N (appS N g0 (newS N) os) (appL g0 os) := hk'
  clear hk thk
  have hk := hk'
  clear hk'
  go_wp2_with fail
  (with_reducible refine (hk.does (fun k h => h.elim) (fun FL FD hs => HK.out.force FL FD lb2 db2 N (appS N g0 (newS N) os) (appL g0 os) _ hs hcF)).mono ?_)
  rintro e w13 ⟨rfl, hk', thk⟩
  have hk' : LHas LI w10.heap.size w10 (fun _ => False) w13 lb2 db2 N (stF N os) (lgF os) := hk'
  clear hk thk
  have hk := hk'
  clear hk'
  clear ga
  have ga := g2.below (R10.d.below.trans (hk.below.mono R10.d.size))
  go_wp2_with fail
  (with_reducible refine (hk.does (fun k h => h.elim) (fun FL FD hs => HK.out.chk_yes FL FD lb2 db2 N (stF N os) (lgF os) A2 l2 c2 bs 0 _ hs H2.out (by omega) ok2 ga i64_0 hcB f2)).mono ?_)
  rintro e w14 ⟨rfl, hk', thk⟩
  have hk' : LHas LI w10.heap.size w10 (fun _ => False) w14 lb2 db2 N (stC N os bs) (lgC os bs) := hk'
  clear hk thk
  have hk := hk'
  clear hk'
  clear ga
  have ga := g3.below (R10.d.below.trans (hk.below.mono R10.d.size))
  go_wp2_with fail
  (with_reducible refine (hk.does (fun k h => h.elim) (fun FL FD hs => HK.out.app_yes FL FD lb2 db2 N (stC N os bs) (lgC os bs) A3 l3 c3 ms 0 _ hs H3.out (by omega) ok3 ga i64_0 hcC f3)).mono ?_)
  rintro e w15 ⟨rfl, hk', thk⟩
  have hk' : LHas LI w10.heap.size w10 (fun _ => False) w15 lb2 db2 N (stM N os bs ms) (appL (lgC os bs) ms) := hk'
  clear hk thk
  have hk := hk'
  clear hk'
  clear ga
  go_wp2_with fail
  (with_reducible refine (hk.does (fun k h => h.elim) (fun FL FD hs => HK.out.force FL FD lb2 db2 N (stM N os bs ms) (appL (lgC os bs) ms) _ hs (by have := cache_stM hCK; omega))).mono ?_)
  rintro e w16 ⟨rfl, hk', tk⟩
  clear hk tk
  obtain ⟨lgz, htz, hokz⟩ := chk_force hCK
  go_wp2_with fail
  refine (hk'.disk.opens HK.out (fun k h => h.elim) htz hokz).mono ?_
  rintro e w17 ⟨lb3, v17, rfl, o17, h17, k17⟩
  have hb17 := h17.below
  have R17 : Rows2 w.heap.size w w17 db N (stM N os bs ms) (.slice A7 nb2 c7) (.slice (some ⟨gz, 0, none⟩) na cz) ([] ++ bs ++ ms) ([] ++ os ++ ([] ++ bs ++ ms)) := ⟨R10.d.keep hb17, R10.v.below hb17, R10.u.below hb17⟩
  clear hk' htz hokz h17 k17 hb17 R10 lgz
  obtain ⟨A17, c17, e17, g17⟩ := o17.good
  subst e17
  obtain ⟨A7', c7', e7, g7⟩ := R17.v.good
  injection e7 with e71 e72 e73
  subst e71 e73
  have F17 := sameR A17 A7 ([] ++ bs ++ ms) nb2 c17 c7 HB.out (by rw [HB3.out]; omega) w17 g17 g7
  have HB' : Hid ((bs ++ ms).length = nb2) := HB
  rw [HB'.out]
  clear o17 g17 g7 e72
  go_wp2_with fail
  (with_reducible refine F17.mono ?_)
  rintro e w18 ⟨rfl, k18⟩
  have R18 : Rows2 w.heap.size w w18 db N (stM N os bs ms) (.slice A7 nb2 c7) (.slice (some ⟨gz, 0, none⟩) na cz) ([] ++ bs ++ ms) ([] ++ os ++ ([] ++ bs ++ ms)) := ⟨R17.d.keep k18, R17.v.below k18, R17.u.below k18⟩
  have hX18 : ∀ k, ((Value.slice A7 nb2 c7).ownBlock = some k ∨ (Value.slice (some ⟨gz, 0, none⟩) na cz).ownBlock = some k) → k < w18.heap.size := fun k hk => hk.elim (fun a => (ownsR_ge R18.v k a).2) (fun a => (ownsR_ge R18.u k a).2)
  clear F17 R17 k18
  go_wp2_with fail
  (with_reducible refine (R18.d.crash hX18 keep tear (by have := cache_stM hCK; omega)).mono ?_)
  rintro e w19 ⟨rfl, D19, t19⟩
  have ov19 := t19.ownsR R18.v (fun k hk => .inl hk)
  have ou19 := t19.ownsR R18.u (fun k hk => .inr hk)
  have hX19 : ∀ k, ((Value.slice A7 nb2 c7).ownBlock = some k ∨ (Value.slice (some ⟨gz, 0, none⟩) na cz).ownBlock = some k) → k < w19.heap.size := fun k hk => Nat.lt_of_lt_of_le (hX18 k hk) t19.1
  clear R18 hX18 t19
  obtain ⟨lgy, rs, hty, hoky, hcase⟩ := chk_crash hCK keep tear
  go_wp2_with fail
  refine (D19.opens HK.out hX19 hty hoky).mono ?_
  rintro e w20 ⟨lb4, v20, rfl, o20, h20, k20⟩
  have ov := ov19.below k20
  have ou := ou19.below k20
  have hb := Lib.hid (fun w' (kk : Below w20.heap.size w20 w') => h20.below.trans (kk.mono h20.size))
  clear D19 hX19 hty hoky h20 k20 ov19 ou19 hCK lgy f1 f2 f3
  obtain ⟨A20, c20, e20, g20⟩ := o20.good
  subst e20
  obtain ⟨A7', c7', e7, g7⟩ := ov.good
  injection e7 with e71 e72 e73
  subst e71 e73
  obtain ⟨gz', cz', ez, gu⟩ := ou.there5 (fun e => by injection e with e; cases e)
  injection ez with ez1 ez2 ez3
  injection ez1 with ez1
  injection ez1 with ez1 _ _
  subst ez1 ez3
  obtain ⟨nr, hnr⟩ : ∃ n, rs.length = n := ⟨_, rfl⟩
  rw [hnr]
  have hnb := HB3.out
  have hna := HA3.out
  have hcv : nb2 ≤ c7 := by have := g7.2.1; rw [HB.out] at this; exact this
  have hcu : na ≤ cz := by have := gu.2.1; rw [HA.out] at this; exact this
  have HNR := Lib.hid hnr
  clear hnr o20 ov ou e72 ez2
  -- the two answers, each some Bool
  have S1 : ∀ W, Below w20.heap.size w20 W → nr ≤ na → Calls Try.prog 14 #[.slice A20 nr c20, .slice (some ⟨gz, 0, none⟩) nr cz] W fun e w' => ∃ o : Bool, e = .returned (.bool o) ∧ Below W.heap.size W w' := fun W hW hle => sameR_some A20 (some ⟨gz, 0, none⟩) rs (([] ++ os ++ ([] ++ bs ++ ms)).take nr) nr c20 cz HNR.out (by rw [List.length_take, HA.out]; omega) (by omega) W (g20.below hW) ((gu.take nr).below hW)
  have S2 : ∀ W, Below w20.heap.size w20 W → nr ≤ nb2 → Calls Try.prog 14 #[.slice A20 nr c20, .slice A7 nr c7] W fun e w' => ∃ o : Bool, e = .returned (.bool o) ∧ Below W.heap.size W w' := fun W hW hle => sameR_some A20 A7 rs (([] ++ bs ++ ms).take nr) nr c20 c7 HNR.out (by rw [List.length_take, HB.out]; omega) (by omega) W (g20.below hW) ((g7.take nr).below hW)
  have T1 : rs = ([] ++ os ++ ([] ++ bs ++ ms)).take nr → nr ≤ na → ∀ W, Below w20.heap.size w20 W → Calls Try.prog 14 #[.slice A20 nr c20, .slice (some ⟨gz, 0, none⟩) nr cz] W fun e w' => e = .returned (.bool true) ∧ Below W.heap.size W w' := fun he hle W hW => sameR A20 (some ⟨gz, 0, none⟩) rs nr c20 cz HNR.out (by omega) W (g20.below hW) (by have h := (gu.take nr).below hW; rwa [← he] at h)
  have T2 : rs = ([] ++ bs ++ ms).take nr → nr ≤ nb2 → ∀ W, Below w20.heap.size w20 W → Calls Try.prog 14 #[.slice A20 nr c20, .slice A7 nr c7] W fun e w' => e = .returned (.bool true) ∧ Below W.heap.size W w' := fun he hle W hW => sameR A20 A7 rs nr c20 c7 HNR.out (by omega) W (g20.below hW) (by have h := (g7.take nr).below hW; rwa [← he] at h)
  clear g20 g7 gu
  have hkind : (l1 ≤ nr ∧ nr ≤ na ∧ rs = ([] ++ os ++ ([] ++ bs ++ ms)).take nr) ∨ (l2 ≤ nr ∧ nr ≤ nb2 ∧ nr ≤ na ∧ rs = ([] ++ bs ++ ms).take nr) := by
    have e1 := H1.out
    have e2 := H2.out
    have e3 := H3.out
    have e4 := HNR.out
    rcases hcase with ⟨q, a1, a2, a3⟩ | ⟨q, a1, a3⟩
    · left
      have hnq : nr = q := by rw [← e4, a3, List.length_take, List.length_append]; omega
      refine ⟨by omega, by omega, ?_⟩
      have e5 : ([] ++ os ++ ([] ++ bs ++ ms) : List RecD) = (os ++ bs) ++ ms := by simp
      rw [a3, hnq, e5, List.take_append_of_le_length (l₁ := os ++ bs) (by rw [List.length_append]; omega)]
    · right
      have hnq : nr = l2 + q := by rw [← e4, a3, List.length_append, List.length_take]; omega
      refine ⟨by omega, by omega, by omega, ?_⟩
      have e5 : ([] ++ bs ++ ms : List RecD) = bs ++ ms := by simp
      rw [a3, hnq, e5, List.take_append (l₁ := bs), List.take_of_length_le (l := bs) (by omega), show l2 + q - bs.length = q by omega]
  clear hcase HNR hnb hna
  have dsame : ∀ (a b : Nat), decide ((a : Int) ≤ (b : Int)) = decide (a ≤ b) := fun a b => by simp
  have i1 : (0 : Int) ≤ (nr : Int) := by omega
  rcases hkind with ⟨k1, k2, k3⟩ | ⟨k1, k2, k4, k3⟩
  · have T1 := T1 k3 k2
    have da : decide ((l1 : Int) ≤ (nr : Int)) = true := by simp; omega
    have db' : decide ((nr : Int) ≤ (na : Int)) = true := by simp; omega
    have da2 : decide (l1 ≤ nr) = true := by simp; omega
    have db2' : decide (nr ≤ na) = true := by simp; omega
    have i2 : nr ≤ cz := by omega
    clear k3 T2 S1 dsame
    go_wp2_with fail
    (with_reducible refine (T1 _ (Below.refl _ _)).mono ?_)
    rintro e w21 ⟨rfl, k21⟩
    clear T1
    by_cases hc : l2 ≤ nr ∧ nr ≤ nb2
    · have dc : decide ((l2 : Int) ≤ (nr : Int)) = true := by simp; omega
      have dd : decide ((nr : Int) ≤ (nb2 : Int)) = true := by simp; omega
      have dc2 : decide (l2 ≤ nr) = true := by simp; omega
      have dd2 : decide (nr ≤ nb2) = true := by simp; omega
      have i3 : nr ≤ c7 := by omega
      go_wp2_with fail
      (with_reducible refine (S2 _ k21 hc.2).mono ?_)
      rintro e w22 ⟨o22, rfl, k22⟩
      have hb2 := Lib.hid (hb.out _ (below_more k21 k22 (Nat.le_refl _)))
      clear S2 k21 k22 hc
      go_wp2
      go_ret
      exact ⟨rfl, hb2.out⟩
    · have hb2 := Lib.hid (hb.out _ k21)
      clear S2 k21
      by_cases hc1 : l2 ≤ nr
      · have dc : decide ((l2 : Int) ≤ (nr : Int)) = true := by simp; omega
        have dd : decide ((nr : Int) ≤ (nb2 : Int)) = false := by simp; omega
        have dc2 : decide (l2 ≤ nr) = true := by simp; omega
        have dd2 : decide (nr ≤ nb2) = false := by simp; omega
        clear hc
        go_wp2
        go_ret
        exact ⟨rfl, hb2.out⟩
      · have dc : decide ((l2 : Int) ≤ (nr : Int)) = false := by simp; omega
        have dc2 : decide (l2 ≤ nr) = false := by simp; omega
        clear hc
        go_wp2
        go_ret
        exact ⟨rfl, hb2.out⟩
  · have T2 := T2 k3 k2
    have dc : decide ((l2 : Int) ≤ (nr : Int)) = true := by simp; omega
    have dd : decide ((nr : Int) ≤ (nb2 : Int)) = true := by simp; omega
    have dc2 : decide (l2 ≤ nr) = true := by simp; omega
    have dd2 : decide (nr ≤ nb2) = true := by simp; omega
    have db' : decide ((nr : Int) ≤ (na : Int)) = true := by simp; omega
    have db2' : decide (nr ≤ na) = true := by simp; omega
    have i2 : nr ≤ cz := by omega
    have i3 : nr ≤ c7 := by omega
    have S1 := fun W h => S1 W h k4
    clear k3 T1 S2 dsame
    by_cases hc : l1 ≤ nr
    · have da : decide ((l1 : Int) ≤ (nr : Int)) = true := by simp; omega
      have da2 : decide (l1 ≤ nr) = true := by simp; omega
      go_wp2_with fail
      (with_reducible refine (S1 _ (Below.refl _ _)).mono ?_)
      rintro e w21 ⟨o21, rfl, k21⟩
      clear S1
      cases o21
      all_goals
        go_wp2_with fail
        (with_reducible refine (T2 _ k21).mono ?_)
        rintro e w22 ⟨rfl, k22⟩
        have hb2 := Lib.hid (hb.out _ (below_more k21 k22 (Nat.le_refl _)))
        clear T2 k21 k22
        go_wp2
        go_ret
        exact ⟨rfl, hb2.out⟩
    · have da : decide ((l1 : Int) ≤ (nr : Int)) = false := by simp; omega
      have da2 : decide (l1 ≤ nr) = false := by simp; omega
      clear S1
      go_wp2_with fail
      (with_reducible refine (T2 _ (Below.refl _ _)).mono ?_)
      rintro e w22 ⟨rfl, k22⟩
      have hb2 := Lib.hid (hb.out _ k22)
      clear T2 k22
      go_wp2
      go_ret
      exact ⟨rfl, hb2.out⟩
/-- WalChecks returns true, for every input. -/
theorem walChecks_any {LI : World → (Nat → Prop) → Nat → Nat → LogD → Prop} (S : WalOK LI) (n : Int) (A1 A2 A3 : Option Addr) (l1 c1 l2 c2 l3 c3 : Nat) (os bs ms : List RecD) (hl1 : os.length = l1) (hl2 : bs.length = l2) (hl3 : ms.length = l3) (ok1 : ∀ r ∈ os, okR r) (ok2 : ∀ r ∈ bs, okR r) (ok3 : ∀ r ∈ ms, okR r) (keep tear : Int) (w : World) (g1 : GoodR A1 c1 os w) (g2 : GoodR A2 c2 bs w) (g3 : GoodR A3 c3 ms w) :
    Calls Try.prog 5 #[.int .i64 n, .slice A1 l1 c1, .slice A2 l2 c2, .slice A3 l3 c3, .int .i64 keep, .int .i64 tear] w fun e w' => e = .returned (.bool true) ∧ Below w.heap.size w w' := by
  by_cases h : n < 1 ∨ 200 < n ∨ 20 < l1 ∨ 20 < l2 ∨ 20 < l3
  · exact checks_out S n A1 A2 A3 l1 c1 l2 c2 l3 c3 keep tear h w
  obtain ⟨N, rfl⟩ : ∃ N : Nat, n = (N : Int) := ⟨n.toNat, by omega⟩
  have a1 : 1 ≤ N := by omega
  have a2 : N ≤ 200 := by omega
  have b1 : l1 ≤ 20 := by omega
  have b2 : l2 ≤ 20 := by omega
  have b3 : l3 ≤ 20 := by omega
  by_cases f1 : fitsE N g0 os 0 0 = 0
  · by_cases f2 : fitsE N (lgF os) bs 1 0 = 0
    · by_cases f3 : fitsE N (lgC os bs) ms 0 0 = 0
      · exact checks_yes S N a1 a2 A1 A2 A3 l1 c1 l2 c2 l3 c3 os bs ms hl1 hl2 hl3 b1 b2 b3 ok1 ok2 ok3 keep tear f1 f2 f3 w g1 g2 g3
      · exact checks_no3 S N a1 a2 A1 A2 A3 l1 c1 l2 c2 l3 c3 os bs ms hl1 hl2 hl3 b1 b2 b3 ok1 ok2 ok3 keep tear f1 f2 _ rfl f3 w g1 g2 g3
    · exact checks_no2 S N a1 a2 A1 A2 A3 l1 c1 l2 c2 l3 c3 os bs ms hl1 hl2 hl3 b1 b2 b3 ok1 ok2 ok3 keep tear f1 _ rfl f2 w g1 g2 g3
  · exact checks_no1 S N a1 a2 A1 A2 A3 l1 c1 l2 c2 l3 c3 os bs ms hl1 hl2 hl3 b1 b2 b3 ok1 ok2 ok3 keep tear _ rfl f1 w g1 g2 g3
end Go.Proofs.Ytdmkkfpbgpijjaa

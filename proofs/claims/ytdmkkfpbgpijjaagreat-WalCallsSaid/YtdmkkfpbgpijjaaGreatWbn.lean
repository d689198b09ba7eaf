/- wal: readSector: the sector of a disk's bytes, if they are a log's. -/
import Derived.Test.YtdmkkfpbgpijjaaGreatWbm
namespace Go.Proofs.YtdmkkfpbgpijjaaGreat
open Go.RowKit Go.Deep Go.Maps
set_option linter.unusedVariables false

/-! ### as plain mathematics -/
theorem bytes_from (zs : List Int) (hz : isBytes zs) (h4 : zs.length = 4) : bytesL (fromN zs) 4 = zs := by
  have hlt := fromN_lt zs hz
  rw [h4] at hlt
  refine fromN_inj _ _ (bytesL_bytes _ _) hz (by rw [bytesL_length, h4]) ?_
  exact four_back _ (by omega)
def secR16 (z : List Int) : Sec := ⟨fromN (z.take 4), fromN ((z.drop 4).take 4), (z.drop 9).take (min (flagOf z % 128) 16), decide (128 ≤ flagOf z)⟩
theorem flag_lt (z : List Int) (hz : isBytes z) : flagOf z < 256 := by
  unfold flagOf
  cases h : z[8]? with
  | none => simp
  | some x =>
    have := hz x (List.mem_of_getElem? h)
    simp; omega
theorem secR16_ok (z : List Int) (hl : z.length = 32) (hz : isBytes z) : okS (secR16 z) := by
  have h1 := fromN_lt (z.take 4) (hz.take 4)
  have h2 := fromN_lt ((z.drop 4).take 4) ((hz.drop 4).take 4)
  have e1 : (z.take 4).length = 4 := by rw [List.length_take]; omega
  have e2 : ((z.drop 4).take 4).length = 4 := by rw [List.length_take, List.length_drop]; omega
  rw [e1] at h1
  rw [e2] at h2
  refine ⟨by show fromN _ < _; omega, by show fromN _ < _; omega, ?_, ((hz.drop 9).take _)⟩
  show ((z.drop 9).take _).length ≤ 16
  rw [List.length_take]; omega
theorem secR16_len (z : List Int) (hl : z.length = 32) : (secR16 z).data.length = min (flagOf z % 128) 16 := by
  show ((z.drop 9).take _).length = _
  rw [List.length_take, List.length_drop]; omega
theorem write_read (z : List Int) (hl : z.length = 32) (hz : isBytes z) (h : isSec z = true) : secL (secOf z) = z := by
  simp only [isSec, Bool.and_eq_true, decide_eq_true_eq, beq_iff_eq] at h
  obtain ⟨⟨⟨⟨_, h2⟩, h3⟩, h4⟩, h5⟩ := h
  have hf := flag_lt z hz
  have e28 : (z.take 28).length = 28 := by rw [List.length_take]; omega
  have hs : sealL (z.take 25) = z.take 28 := by
    have := open_is h3
    unfold openL at this
    rw [h3, if_pos rfl, e28, List.take_take] at this
    exact this
  have e4 : (z.take 4).length = 4 := by rw [List.length_take]; omega
  have e44 : ((z.drop 4).take 4).length = 4 := by rw [List.length_take, List.length_drop]; omega
  have n1 := bytes_from (z.take 4) (hz.take 4) e4
  have n2 := bytes_from ((z.drop 4).take 4) ((hz.drop 4).take 4) e44
  obtain ⟨x, hx⟩ : ∃ x, z[8]? = some x := ⟨z[8], List.getElem?_eq_getElem (by omega)⟩
  have hxb := hz x (List.mem_of_getElem? hx)
  have hfx : ((flagOf z : Nat) : Int) = x := by unfold flagOf; rw [hx]; simp; omega
  have hd8 : (z.drop 8).take 1 = [x] := by
    have : z.drop 8 = z[8] :: z.drop 9 := by rw [List.drop_eq_getElem_cons (by omega)]
    rw [this]
    have : z[8] = x := by rw [List.getElem?_eq_getElem (by omega)] at hx; injection hx
    simp [this]
  have hk : ((z.drop 9).take (flagOf z % 128)).length = flagOf z % 128 := by rw [List.length_take, List.length_drop]; omega
  have hfl : flagN (flagOf z % 128) (decide (128 ≤ flagOf z)) = flagOf z := by
    unfold flagN
    by_cases h : 128 ≤ flagOf z
    · simp [h]; omega
    · simp [h]; omega
  have hb : bodyL (secOf z) = z.take 25 := by
    unfold bodyL secOf
    simp only
    rw [n1, n2, hk, hfl, hfx, ← h5]
    have t1 : z.take 25 = z.take (((4 + 4) + 1) + (flagOf z % 128) + (16 - flagOf z % 128)) := by congr 1; omega
    rw [t1, List.take_add, List.take_add, List.take_add, List.take_add, hd8]
  unfold secL
  rw [hb, hs]
  show _ ++ bytesL (fromN (z.take 4)) 4 = z
  rw [n1, h2, List.take_append_drop]
theorem readS_eq (z : List Int) (hl : z.length = 32) (hz : isBytes z) : readS z = if secL (secR16 z) = z then some (secR16 z) else none := by
  by_cases h : secL (secR16 z) = z
  · rw [if_pos h]
    conv => lhs; rw [← h]
    exact read_sec (secR16_ok z hl hz)
  · rw [if_neg h]
    unfold readS
    by_cases hi : isSec z = true
    · exfalso
      apply h
      have e : secR16 z = secOf z := by
        have hi2 := hi
        simp only [isSec, Bool.and_eq_true, decide_eq_true_eq, beq_iff_eq] at hi2
        unfold secR16 secOf
        rw [Nat.min_eq_left hi2.1.2]
      rw [e]
      exact write_read z hl hz hi
    · simp [hi]
theorem there_below {W W' : World} {B b o n : Nat} (h : W.there b o n) (hb : Below B W W') (hlt : b < B) : W'.there b o n := there_of_block' (hb.block b hlt) h
set_option maxRecDepth 100000 in
theorem size_secV : (Tryz.prog.info? 72).map (·.size) = some 4 := by kernel_rfl
/-- A sector in four cells. -/
def secV (n first : Nat) (beg : Bool) (A : Option Addr) (l c : Nat) : List Value := [.int .i64 n, .int .i64 first, .bool beg, .slice A l c]
theorem secV_one (n first : Nat) (beg : Bool) (A : Option Addr) (l c : Nat) : ∀ v ∈ secV n first beg A l c, v.oneCell' = true := by
  intro v hv
  simp only [secV, List.mem_cons, List.not_mem_nil, or_false] at hv
  rcases hv with rfl | rfl | rfl | rfl <;> rfl
/-- The four cells of a new sector lie as they were laid. -/
structure NewV (B : Nat) (W : World) : Prop where
  c0 : W.cell? ⟨B, 0, none⟩ = some (.int .i64 0)
  c1 : W.cell? ⟨B, 1, none⟩ = some (.int .i64 0)
  c2 : W.cell? ⟨B, 2, none⟩ = some (.bool false)
  c3 : W.cell? ⟨B, 3, none⟩ = some (.slice none 0 0)
  f0 : W.frozen? ⟨B, 0, none⟩ = false
  f1 : W.frozen? ⟨B, 1, none⟩ = false
  f2 : W.frozen? ⟨B, 2, none⟩ = false
  f3 : W.frozen? ⟨B, 3, none⟩ = false
  lt : B < W.heap.size
theorem newV_of {W : World} {B : Nat} (hb : W.heap[B]? = some (.cells #[.int .i64 0, .int .i64 0, .bool false, .slice none 0 0] 72)) : NewV B W := by
  have hc : ∀ j, W.cell? ⟨B, j, none⟩ = _ := fun j => cell_of_row _ _ j _ 72 (0, 0) hb
  have hf : ∀ j, W.frozen? ⟨B, j, none⟩ = false := fun j => by simp [World.frozen?, hb]
  exact ⟨(hc 0).trans rfl, (hc 1).trans rfl, (hc 2).trans rfl, (hc 3).trans rfl, hf 0, hf 1, hf 2, hf 3, (Array.getElem?_eq_some_iff.1 hb).1⟩
theorem newV_new (V : World) : NewV V.heap.size (V.alloc (.cells #[.int .i64 0, .int .i64 0, .bool false, .slice none 0 0] 72)) := newV_of (heap_alloc_new V _)
theorem NewV.block {B : Nat} {W W' : World} (h : NewV B W) (hb : W'.heap[B]? = W.heap[B]?) (hs : W.heap.size ≤ W'.heap.size) : NewV B W' :=
  ⟨(World.cell?_of_block (a := ⟨B, 0, none⟩) hb).trans h.c0, (World.cell?_of_block (a := ⟨B, 1, none⟩) hb).trans h.c1, (World.cell?_of_block (a := ⟨B, 2, none⟩) hb).trans h.c2, (World.cell?_of_block (a := ⟨B, 3, none⟩) hb).trans h.c3,
    (World.frozen?_of_block (a := ⟨B, 0, none⟩) hb).trans h.f0, (World.frozen?_of_block (a := ⟨B, 1, none⟩) hb).trans h.f1, (World.frozen?_of_block (a := ⟨B, 2, none⟩) hb).trans h.f2, (World.frozen?_of_block (a := ⟨B, 3, none⟩) hb).trans h.f3, Nat.lt_of_lt_of_le h.lt hs⟩
theorem NewV.below {B : Nat} {W W' : World} (h : NewV B W) (hb : Below W.heap.size W W') : NewV B W' := h.block (hb.block B h.lt) hb.size
theorem NewV.drew {B : Nat} {W : World} (h : NewV B W) : NewV B W.drew := ⟨h.c0, h.c1, h.c2, h.c3, h.f0, h.f1, h.f2, h.f3, h.lt⟩
theorem NewV.alloc {B : Nat} {W : World} (h : NewV B W) (o : Obj) : NewV B (W.alloc o) := h.below ((Below.refl _ _).alloc (Nat.le_refl _) _)
theorem cutW {G R : World → Prop} {W : World} (h : R W) (H : ∀ W3, R W3 → G W3) : G W := H W h
theorem newV_below {V W' : World} (hb : Below (V.alloc (.cells #[.int .i64 0, .int .i64 0, .bool false, .slice none 0 0] 72)).heap.size (V.alloc (.cells #[.int .i64 0, .int .i64 0, .bool false, .slice none 0 0] 72)) W') : NewV V.heap.size W' := (newV_new V).below hb
theorem newV_drew {V W' : World} (hb : Below (V.alloc (.cells #[.int .i64 0, .int .i64 0, .bool false, .slice none 0 0] 72)).drew.heap.size (V.alloc (.cells #[.int .i64 0, .int .i64 0, .bool false, .slice none 0 0] 72)).drew W') : NewV V.heap.size W' :=
  NewV.below (W := (V.alloc (.cells #[.int .i64 0, .int .i64 0, .bool false, .slice none 0 0] 72)).drew) ⟨(newV_new V).c0, (newV_new V).c1, (newV_new V).c2, (newV_new V).c3, (newV_new V).f0, (newV_new V).f1, (newV_new V).f2, (newV_new V).f3, (newV_new V).lt⟩ hb
/-- Bytes are a log's sector with a number. -/
def readsB (z : List Int) : Bool := decide ((secR16 z).n ≠ 0) && decide (secL (secR16 z) = z)
theorem bits_count (x : Nat) (h : x < 256) : bits .andNot .u8 (x : Int) 128 = ((x % 128 : Nat) : Int) ∧ (bits .and .u8 (x : Int) 128 != 0) = decide (128 ≤ x) := by
  have : ∀ k : Fin 256, bits .andNot .u8 ((k.1 : Nat) : Int) 128 = ((k.1 % 128 : Nat) : Int) ∧ (bits .and .u8 ((k.1 : Nat) : Int) 128 != 0) = decide (128 ≤ k.1) := by decide +kernel
  exact this ⟨x, h⟩
def ReadSecSays (z : List Int) (b off c : Nat) (w : World) (e : Ending) (w' : World) : Prop :=
  Below w.heap.size w w' ∧ ((readsB z = true ∧ e = .returned (.tuple #[.agg #[.int .i64 (secR16 z).n, .int .i64 (secR16 z).first, .bool (secR16 z).beg, .slice (some ⟨b, off + 9, none⟩) (secR16 z).data.length (c - 9)], .bool true])) ∨
    (readsB z = false ∧ e = .returned (.tuple #[.agg #[.int .i64 0, .int .i64 0, .bool false, .slice none 0 0], .bool false])))
/-- What holds behind the struct's literal. -/
structure RdT (w : World) (b off c sb : Nat) (z : List Int) (n first k : Nat) (beg : Bool) (W : World) : Prop where
  g : Good (some ⟨b, off, none⟩) c z W
  bel : Below w.heap.size w W
  row : W.rangeAt sb 0 (secV n first beg (some ⟨b, off + 9, none⟩) k (c - 9))
  lt : sb < W.heap.size
  gt : w.heap.size < sb
  res : NewV w.heap.size W
theorem RdT.below {w : World} {b off c sb : Nat} {z : List Int} {n first k : Nat} {beg : Bool} {W W' : World} (h : RdT w b off c sb z n first k beg W) (hb : Below W.heap.size W W') : RdT w b off c sb z n first k beg W' :=
  ⟨h.g.below hb, below_more h.bel hb (Nat.le_refl _), rangeAt_of_block' (hb.block sb h.lt) h.row, Nat.lt_of_lt_of_le h.lt hb.size, h.gt, h.res.below hb⟩
theorem rdT_set {w : World} {b off c sb : Nat} {z : List Int} {n first k : Nat} {beg : Bool} {W W3 : World} (hg : Good (some ⟨b, off, none⟩) c z W) (hb : Below w.heap.size w W) (hbl : b < w.heap.size) (hv : NewV sb W) (gt : w.heap.size < sb) (res : NewV w.heap.size W) (e : Hid (W3 = W.setCells sb 0 (secV n first beg (some ⟨b, off + 9, none⟩) k (c - 9)))) : RdT w b off c sb z n first k beg W3 := by
  have hm := moves_store e
  have ht : W.there sb 0 4 := fun j hj => by
    match j, hj with
    | 0, _ => exact ⟨by rw [hv.c0]; rfl, hv.f0⟩
    | 1, _ => exact ⟨by rw [hv.c1]; rfl, hv.f1⟩
    | 2, _ => exact ⟨by rw [hv.c2]; rfl, hv.f2⟩
    | 3, _ => exact ⟨by rw [hv.c3]; rfl, hv.f3⟩
  have hbk : W3.heap[b]? = W.heap[b]? := hm.block b (Nat.lt_of_lt_of_le hbl hb.size) (by show ¬ b = sb; omega)
  refine ⟨⟨?_, hg.2⟩, hb.trans (hm.below hb.size (fun k hk => by subst hk; omega)), range_store e ht, by rw [size_store e]; exact hv.lt, gt, res.block (hm.block _ res.lt (by show ¬ w.heap.size = sb; omega)) hm.size⟩
  intro h0
  obtain ⟨b', off', e', hlt, hc⟩ := hg.1 h0
  cases e'
  exact ⟨b, off, rfl, by rw [size_store e]; exact hlt, fun j hj => (World.cell?_of_block (a := ⟨b, off + j, none⟩) hbk).trans (hc j hj)⟩
theorem rdT_new {w : World} {b off c : Nat} {z : List Int} {n first k : Nat} {beg : Bool} {W : World} (hg : Good (some ⟨b, off, none⟩) c z W) (hb : Below w.heap.size w W) (res : NewV w.heap.size W) : RdT w b off c W.heap.size z n first k beg (W.alloc (.cells (secV n first beg (some ⟨b, off + 9, none⟩) k (c - 9)).toArray 72)) := by
  have hb1 : Below W.heap.size W (W.alloc (.cells (secV n first beg (some ⟨b, off + 9, none⟩) k (c - 9)).toArray 72)) := (Below.refl _ _).alloc (Nat.le_refl _) _
  refine ⟨hg.below hb1, below_more hb hb1 (Nat.le_refl _), fun j v hv => ?_, by simp, res.lt, res.below hb1⟩
  rw [Nat.zero_add, cell_of_row _ _ j _ 72 (0, 0) (heap_alloc_new W _)]
  simpa using hv
theorem RdT.cells {w : World} {b off c sb : Nat} {z : List Int} {n first k : Nat} {beg : Bool} {W : World} (h : RdT w b off c sb z n first k beg W) : W.cell? ⟨sb, 0, none⟩ = some (.int .i64 n) ∧ W.cell? ⟨sb, 1, none⟩ = some (.int .i64 first) ∧ W.cell? ⟨sb, 2, none⟩ = some (.bool beg) ∧ W.cell? ⟨sb, 3, none⟩ = some (.slice (some ⟨b, off + 9, none⟩) k (c - 9)) :=
  ⟨h.row 0 _ rfl, h.row 1 _ rfl, h.row 2 _ rfl, h.row 3 _ rfl⟩
set_option maxRecDepth 100000 in
set_option maxHeartbeats 1000000 in
theorem readSector_any (b off c : Nat) (z : List Int) (hl : z.length = 32) (hz : isBytes z) (w : World) (g : Good (some ⟨b, off, none⟩) c z w) :
    Calls Tryz.prog 57 #[.slice (some ⟨b, off, none⟩) 32 c] w (ReadSecSays z b off c w) := by
  have ok := Lib.hid (secR16_ok z hl hz)
  have hdl := Lib.hid (secR16_len z hl)
  obtain ⟨x, hx⟩ : ∃ x : Nat, flagOf z = x := ⟨_, rfl⟩
  have hx256 : x < 256 := by rw [← hx]; exact flag_lt z hz
  have hc32 : 32 ≤ c := by have := g.2.1; omega
  obtain ⟨b', off', e', hbl, hcell⟩ := g.1 (by omega)
  cases e'
  have k8 : w.cell? ⟨b, off + 8, none⟩ = some (.int .u8 x) := by
    rw [hcell 8 (by omega)]
    have hzb := hz z[8] (List.getElem_mem _)
    rw [← hx]
    unfold flagOf
    rw [List.getElem?_eq_getElem (by omega)]
    simp; omega
  clear hcell
  obtain ⟨m, hm⟩ : ∃ m : Nat, x % 128 = m := ⟨_, rfl⟩
  have hb := bits_count x hx256
  rw [hm] at hb
  have hb2 := hb.1
  have hb3 := hb.2
  clear hb
  have hbeg := Lib.hid (show (secR16 z).beg = decide (128 ≤ x) by rw [← hx]; rfl)
  rw [hx, hm] at hdl
  have hN1 := fun W (h : Good (some ⟨b, off, none⟩) c z W) => readNumber_any b off c 32 (secR16 z).n z hl (by omega) hz rfl W h
  have hN2 := fun W (h : Good (some ⟨b, off, none⟩) c z W) => readNumber_any b (off + 4) (c - 4) 28 (secR16 z).first (z.drop 4) (by rw [List.length_drop]; omega) (by omega) (hz.drop 4) rfl W (h.drop 4 (by omega))
  have hk16 : min m 16 ≤ 16 := by omega
  obtain ⟨k, hk⟩ : ∃ k, min m 16 = k := ⟨_, rfl⟩
  rw [hk] at hk16 hdl
  have hminI : min (m : Int) 16 = (k : Int) := by omega
  have g9 := Lib.hid (show ∀ W, Good (some ⟨b, off, none⟩) c z W → Good (some ⟨b, off + 9, none⟩) (c - 9) (secR16 z).data W from fun W h => (h.drop 9 (by omega)).take _)
  unfold ReadSecSays readsB
  generalize hs : secR16 z = s at *
  clear hs
  have hci : (9 : Int) + k ≤ c := by omega
  have hci2 : (4 : Int) ≤ c := by omega
  have hE := fun (W : World) h => bytes_any s (some ⟨b, off + 9, none⟩) (c - 9) k hdl.out ok.out W h
  have hEq := fun (A' : Option Addr) (c' : Nat) (W : World) (o : Bool) (ho : (z == secL s) = o) (h1 : Good (some ⟨b, off, none⟩) c z W) (h2 : Good A' c' (secL s) W) => equal_any (some ⟨b, off, none⟩) A' z (secL s) c c' 32 32 o hl (secL_length ok.out) hz (secL_bytes ok.out) ho W h1 h2
  have hm16 : (m : Int) ≤ 16 ∧ k = m ∨ (16 : Int) < m ∧ k = 16 := by omega
  have hs1 : (9 : Int) ≤ 9 + k := by omega
  have hs2 : ¬ ((9 : Int) = c) := by omega
  have hs3 : (9 : Int) ≤ c := by omega
  have hs4 : IntKind.i64.wrap (9 + (k : Int)) = 9 + k := IntWalk.i64_in _ (by omega)
  have hs5 : ((9 : Int) + k).toNat - 9 = k := by omega
  have hc4 : ¬ (c = 4) := by omega
  have hc9 : ¬ (c = 9) := by omega
  have HHL := Lib.hid hl
  have HHZ := Lib.hid hz
  have hm128 : m < 128 := by omega
  have hc25 : (25 : Int) ≤ c := by omega
  have hc25n : 25 ≤ c := by omega
  clear hl hz hk hminI hm hx
  have kT : ∀ W W' : World, Good (some ⟨b, off, none⟩) c z W ∧ Below w.heap.size w W → Below W.heap.size W W' → Good (some ⟨b, off, none⟩) c z W' ∧ Below w.heap.size w W' := fun W W' h hb => ⟨h.1.below hb, below_more h.2 hb (Nat.le_refl _)⟩
  have kA : ∀ (W : World) (o : Obj), Good (some ⟨b, off, none⟩) c z W ∧ Below w.heap.size w W → Good (some ⟨b, off, none⟩) c z (W.alloc o) ∧ Below w.heap.size w (W.alloc o) := fun W o h => kT W _ h ((Below.refl _ _).alloc (Nat.le_refl _) _)
  have kD : ∀ (W : World), Good (some ⟨b, off, none⟩) c z W ∧ Below w.heap.size w W → Good (some ⟨b, off, none⟩) c z W.drew ∧ Below w.heap.size w W.drew := fun W h => kT W _ h (below_drewN (Below.refl _ _) 1)
  have t0 : Good (some ⟨b, off, none⟩) c z w ∧ Below w.heap.size w w := ⟨g, Below.refl _ _⟩
  clear g
  go_enter Tryz.func57, Tryz.ntmps57
  rcases hm16 with ⟨hm1, rfl⟩ | ⟨hm1, hk16e⟩
  all_goals
    (try (have HK := Lib.hid hk16e; clear hk16e))
    go_wp2_with fail
    (try rw [show Value.int IntKind.i64 16 = Value.int IntKind.i64 (k : Int) by rw [HK.out]; rfl])
    have t1 := kA _ (.cells #[.int .i64 0, .int .i64 0, .bool false, .slice none 0 0] 72) t0
    have cz := Lib.hid (newV_new w)
    have hsz := Lib.hid (show (w.alloc (.cells #[.int .i64 0, .int .i64 0, .bool false, .slice none 0 0] 72)).heap.size = w.heap.size + 1 from World.size_alloc _ _)
    generalize w.alloc (.cells #[.int .i64 0, .int .i64 0, .bool false, .slice none 0 0] 72) = W0 at *
    go_region_held3 (fun _ => True) (exact trivial) (first
      | (go_at_call_of 71 (some (⟨b, off, none⟩ : Addr)); (with_reducible refine (hN1 _ (by first | exact (kD _ t1).1 | exact (kD _ (kA _ _ t1)).1)).mono ?_); rintro e W1 ⟨rfl, b1⟩; try (have n1 := newV_drew b1))
      | (go_at_call 71; (with_reducible refine (hN2 _ (by first | exact (kT _ _ (kD _ t1) b1).1 | exact (kA _ _ (kT _ _ (kD _ t1) b1)).1 | exact (kT _ _ (kD _ (kA _ _ t1)) b1).1)).mono ?_); rintro e W2 ⟨rfl, b2⟩; (first | (have n2 := n1.below b2) | (have n2 := newV_below b2) | skip); try (have z0 := n2.c0; have z1 := n2.c1; have z2 := n2.c2; have z3 := n2.c3; have f0 := n2.f0; have f1 := n2.f1; have f2 := n2.f2; have f3 := n2.f3)))
    all_goals
      have T2 : (Good (some ⟨b, off, none⟩) c z W2 ∧ Below w.heap.size w W2) ∧ NewV w.heap.size W2 := by
        first
        | exact ⟨kT _ _ (kT _ _ (kD _ t1) b1) b2, (cz.out.drew.below b1).below b2⟩
        | exact ⟨kT _ _ (kA _ _ (kT _ _ (kD _ t1) b1)) b2, ((cz.out.drew.below b1).alloc _).below b2⟩
        | exact ⟨kT _ _ (kT _ _ (kD _ (kA _ _ t1)) b1) b2, ((cz.out.alloc _).drew.below b1).below b2⟩
      first
      | refine cutW (rdT_set (n := s.n) (first := s.first) (beg := decide (128 ≤ x)) T2.1.1 T2.1.2 hbl n2 (by first | exact (cz.out.drew.below b1).lt | exact cz.out.lt) T2.2 (Lib.hid rfl)) ?_
      | refine cutW (rdT_new (n := s.n) (first := s.first) (beg := decide (128 ≤ x)) T2.1.1 T2.1.2 T2.2) ?_
      intro W3 hR
      obtain ⟨q0, q1, q2, q3⟩ := hR.cells
      by_cases hn0 : s.n = 0
      · have hz0 : ((s.n : Int) == 0) = true := by simp [hn0]
        have HN := Lib.hid hn0
        have r0 := hR.res.c0
        have r1 := hR.res.c1
        have r2 := hR.res.c2
        have r3 := hR.res.c3
        have p0 := hR.res.f0
        have p1 := hR.res.f1
        have p2 := hR.res.f2
        have p3 := hR.res.f3
        have hbel := hR.bel
        clear hn0 hN1 hN2 hE hEq kT kA kD t0 t1 T2 hR
        go_wp2
        refine bodyPost_ret (v := .tuple #[.agg #[.int .i64 0, .int .i64 0, .bool false, .slice none 0 0], .bool false]) ?_ rfl ⟨?_, .inr ⟨by simp [HN.out], rfl⟩⟩
        · simp [results, Tryz.results57, go_sem, r0, r1, r2, r3]
        · repeat first | with_reducible exact hbel | with_reducible refine below_sc ?_ (Nat.le_refl _) _ | with_reducible refine Below.drew ?_
      · have hz0 : ((s.n : Int) == 0) = false := by simp; exact hn0
        have HN := Lib.hid hn0
        clear hn0 hN1 hN2 kT kA kD t0 t1 T2
        have cE := hE _ (g9.out _ hR.g)
        clear hE
        rw [hbeg.out] at cE
        go_wp2_with fail
        refine cE.mono ?_
        rintro e W4 ⟨v4, rfl, o4, b4⟩
        have hR4 := hR.below b4
        obtain ⟨A4, c4, rfl, g4⟩ := o4.good
        rw [secL_length ok.out]
        obtain ⟨y0, y1, y2, y3⟩ := hR4.cells
        have r0 := hR4.res.c0
        have r1 := hR4.res.c1
        have r2 := hR4.res.c2
        have r3 := hR4.res.c3
        have p0 := hR4.res.f0
        have p1 := hR4.res.f1
        have p2 := hR4.res.f2
        have p3 := hR4.res.f3
        have hbel := hR4.bel
        have G4 := Lib.hid g4
        have GZ := Lib.hid hR4.g
        clear q0 q1 q2 q3 cE o4 b4 g4 hR hR4
        cases ho : (z == secL s)
        · have cQ := hEq A4 c4 W4 false ho GZ.out G4.out
          have HO := Lib.hid ho
          clear hEq ho
          go_wp2_with fail
          refine cQ.mono ?_
          rintro e w' ⟨rfl, rfl⟩
          go_wp2
          refine bodyPost_ret (v := .tuple #[.agg #[.int .i64 0, .int .i64 0, .bool false, .slice none 0 0], .bool false]) ?_ rfl ⟨?_, .inr ⟨?_, rfl⟩⟩
          · simp [results, Tryz.results57, go_sem, r0, r1, r2, r3]
          · repeat first | with_reducible exact hbel | with_reducible refine below_sc ?_ (Nat.le_refl _) _ | with_reducible refine Below.drew ?_
          · have := HO.out
            simp only [beq_eq_false_iff_ne] at this
            simp only [Bool.and_eq_false_iff, decide_eq_false_iff_not]
            exact .inr (fun e => this e.symm)
        · have cQ := hEq A4 c4 W4 true ho GZ.out G4.out
          have HO := Lib.hid ho
          clear hEq ho
          go_wp2_with fail
          refine cQ.mono ?_
          rintro e w' ⟨rfl, rfl⟩
          go_wp2
          refine bodyPost_ret (v := .tuple #[.agg #[.int .i64 s.n, .int .i64 s.first, .bool (decide (128 ≤ x)), .slice (some ⟨b, off + 9, none⟩) k (c - 9)], .bool true]) ?_ rfl ⟨?_, .inl ⟨?_, by rw [hbeg.out, hdl.out]⟩⟩
          · simp [results, Tryz.results57, go_sem, r0, r1, r2, r3]
          · repeat first | with_reducible exact hbel | with_reducible refine below_sc ?_ (Nat.le_refl _) _ | with_reducible refine Below.drew ?_
          · have := HO.out
            simp only [beq_iff_eq] at this
            simp [HN.out, ← this]
end Go.Proofs.YtdmkkfpbgpijjaaGreat

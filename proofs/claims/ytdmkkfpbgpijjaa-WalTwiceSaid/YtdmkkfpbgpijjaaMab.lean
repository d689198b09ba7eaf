/- rec.read: a record of any bytes, as if noughts stood behind them. rec.Decode: the record at the beginning of bytes, for every bytes. Lists of records in memory: a slice holds records (GoodR), new records of one's own (OwnsR), append onto them, lists compared (SameRecs). The frame of a statement whose row names no variable, over Gc and records: what comes in, for parameters that are bytes, numbers, records and lists of records. Layer 3 (disk) as plain mathematics: what lasts, the cache, and what each call does to them. No program. Memory that more than one party writes: Moves F (all but the blocks F, and new ones, is as it was); a disk of the program in memory (DiskAt). disk: there, Sectors, Loose, New, Read, Image. Laws for walks over rows of many cells, in which the world behind a step is a letter: alloc, store, clear of a map. Nothing of one layer but the disk's frame word Moves. disk: Read, Image. disk: carryOut, emptyCache, carryOutTorn, Flush, Crash. disk: carryOutTorn. disk: Flush, Crash. disk: Write. The statements' helpers on a disk: Read, Image, Loose, Sectors at DiskAt; full, great, do, begin. Plain arithmetic: turning there and back, counting by parts, the lowest bit taken away. Nothing of the program. Plain arithmetic of layer 2's sum of 24 bits: it is linear, it loses nothing, what is sealed has the sum 0, and turned bits are seen. Nothing of the program. Layer 2 as plain functions on lists, for the stages above it: the sum, its three bytes, sealing and opening (Sa over Eh). Nothing of the program. Layer 5 (wal) as plain mathematics: a log's sector, how it is read, and a torn one. No program. What a disk tells as a log, as plain mathematics: the last sector, the first that counts, the rows of records. No program. What a disk tells as a log, gone on: which sectors count, what Open is to answer, what is written, and what a crash leaves of a log that goes round its disk at most once. No program. -/
import Derived.Test.YtdmkkfpbgpijjaaMaa
import Derived.Laws.CopyOwn
import Derived.Laws.Cover3
import Derived.ProofKit
import Derived.OpenShut
import Derived.LaidMore
import Derived.Stop.Joined
import Derived.Lib.LaidTab
import Derived.SevenTiedAt
import Derived.Deep.Slices
import Derived.Deep.Fields
import Derived.Deep.MidRow
import Derived.Deep.AppendLies
import Derived.Maps.OwnSet
import Derived.Deep.WholeRow
import Derived.Deep.RegionHeld3
import Derived.Deep.DrawnRows
import Derived.StillTailTactics
import Derived.BigRegion
namespace Go.Proofs.Ytdmkkfpbgpijjaa
open Go.RowKit Go.Deep
set_option linter.unusedVariables false

def z24 : List Value := (zeros 24).map (Value.int .u8)
theorem splice_n {α : Type} (n : Nat) (z : α) (xs : List α) : splice (List.replicate n z) 0 (xs.take n) = (xs ++ List.replicate n z).take n := by
  unfold splice
  rw [List.take_append, List.take_zero, List.nil_append, Nat.zero_add, List.length_take, List.drop_replicate, List.take_replicate]
  congr 2
  omega
theorem splice_pad (zs : List Int) : splice z24 0 ((zs.take 24).map (Value.int .u8)) = (pad zs).map (Value.int .u8) := by
  have e : z24 = List.replicate 24 (Value.int .u8 0) := rfl
  have e2 : (zeros 24).map (Value.int .u8) = List.replicate 24 (Value.int .u8 0) := rfl
  unfold pad
  rw [e, List.map_take, List.map_take, List.map_append, e2, splice_n]
theorem pad_good' {W : World} {b : Nat} {ps : List Int} {t : TypeId} (h : W.heap[b]? = some (.cells (ps.map (Value.int .u8)).toArray t (0, 0))) (hl : ps.length = 24) : Good (some ⟨b, 0, none⟩) 24 ps W := by
  refine ⟨fun _ => ⟨b, 0, rfl, (Array.getElem?_eq_some_iff.1 h).1, fun j hj => ?_⟩, by omega, fun e => by cases e⟩
  rw [Nat.zero_add, cell_of_row _ b j _ t (0, 0) h]
  simp [hj]
theorem head_un (u : Nat) (h : u < 16777216) : unpackOK [3, 21] u = true ∧ unpackL [3, 21] u = [((u % 8 : Nat) : Int), ((u / 8 : Nat) : Int)] := by
  constructor
  · simp [unpackOK, okW, sumI, offN]; omega
  · rw [unpackL_eq _ (by simp)]
    simp [unpackR]
    omega
theorem src_cells {A : Option Addr} {c : Nat} {zs : List Int} {W : World} (g : Good A c zs W) (g0 : Nat) : 0 < ((zs.take 24).map (Value.int .u8)).length → (some (⟨g0, 0, none⟩ : Addr)) = some ⟨g0, 0, none⟩ ∧ ∃ ad, A = some ad ∧ ∀ j v, ((zs.take 24).map (Value.int .u8))[j]? = some v → W.cell? (ad.add j) = some v := fun h => by
  refine ⟨rfl, ?_⟩
  have h0 : 0 < (zs.take 24).length := by simpa using h
  obtain ⟨b, off, rfl⟩ := (g.take 24).some h0
  exact ⟨_, rfl, cells_of_good rfl (g.take 24)⟩
set_option maxRecDepth 100000 in
theorem size_u8 : (Try.prog.info? 5).map (·.size) = some 1 := by kernel_rfl
/-- A record lies in a block that can be written. -/
structure RecBox (W : World) (b : Nat) (r : RecD) : Prop where
  at_ : RecAt W b r
  fz : ∀ i, W.frozen? ⟨b, i, none⟩ = false
theorem RecBox.below {W W' : World} {b B : Nat} {r : RecD} (h : RecBox W b r) (hb : Below B W W') (hB : b < B) : RecBox W' b r := ⟨h.at_.below hb hB, fun i => (hb.frozen (p := ⟨b, i, none⟩) hB).trans (h.fz i)⟩
theorem RecBox.drew {W : World} {b : Nat} {r : RecD} (h : RecBox W b r) : RecBox W.drew b r := h.below ((Below.refl W.heap.size W).drew) h.at_.lt
set_option maxRecDepth 100000 in
theorem recBox_new (w : World) (r : RecD) : RecBox (w.alloc (.cells (recA r) 48)) w.heap.size r := ⟨recAt_new w r, fun i => by simp [go_sem]⟩
theorem heap2n (w : World) (o o' : Obj) : ((w.alloc o).alloc o').heap[w.heap.size + 1]? = some o' := by
  have := heap_alloc_new (w.alloc o) o'
  rw [show (w.alloc o).heap.size = w.heap.size + 1 by simp] at this
  exact this
theorem below2 (w : World) (o o' : Obj) : Below w.heap.size w ((w.alloc o).alloc o') := ((Below.refl _ _).alloc (Nat.le_refl _) _).alloc (by simp) _
theorem below_sc {B b i : Nat} {w W : World} (h : Below B w W) (hb : B ≤ b) (v : Value) : Below B w (W.setCell ⟨b, i, none⟩ v) := h.setCell (p := ⟨b, i, none⟩) hb v
theorem cell_sc (W : World) (b i d j : Nat) (v : Value) (h : d ≠ b) : (W.setCell ⟨b, i, none⟩ v).cell? ⟨d, j, none⟩ = W.cell? ⟨d, j, none⟩ := by
  have h2 : (⟨b, i, none⟩ : Addr) ≠ ⟨d, j, none⟩ := fun e => h (by injection e with e; exact e.symm)
  rw [World.cell?_setCell_other _ _ _ _ h2]
theorem good_sc {A : Nat} {off c : Nat} {zs : List Int} {W : World} (g : Good (some ⟨A, off, none⟩) c zs W) (b i : Nat) (v : Value) (h : A ≠ b) : Good (some ⟨A, off, none⟩) c zs (W.setCell ⟨b, i, none⟩ v) := by
  refine ⟨fun h0 => ?_, g.2⟩
  obtain ⟨b', o', e, hlt, hc⟩ := g.1 h0
  cases e
  exact ⟨A, off, rfl, by simpa using hlt, fun j hj => (cell_sc W b i A (off + j) v h).trans (hc j hj)⟩
theorem box_sc {W : World} {b : Nat} {r : RecD} (h : RecBox W b r) (m i : Nat) (v : Value) (hb : b ≠ m) : RecBox (W.setCell ⟨m, i, none⟩ v) b r := by
  have k := fun j => cell_sc W m i b j v hb
  exact ⟨⟨(k 0).trans h.at_.c0, (k 1).trans h.at_.c1, (k 2).trans h.at_.c2, (k 3).trans h.at_.c3, (k 4).trans h.at_.c4, (k 5).trans h.at_.c5, (k 6).trans h.at_.c6, (k 7).trans h.at_.c7, (k 8).trans h.at_.c8, (k 9).trans h.at_.c9, (k 10).trans h.at_.c10⟩, fun j => by rw [World.frozen?_setCell]; exact h.fz j⟩
def set4 (W : World) (m : Nat) (a b c d : Int) : World := (((W.setCell ⟨m, 3, none⟩ (.int .u8 a)).setCell ⟨m, 4, none⟩ (.int .u8 b)).setCell ⟨m, 5, none⟩ (.int .u8 c)).setCell ⟨m, 6, none⟩ (.int .u8 d)
set_option maxRecDepth 100000 in
theorem box_key {W : World} {m : Nat} {k t : Int} (h : RecBox W m ⟨k, t, 0, 0, 0, 0, 0, false, 0, false, 0⟩) (a b c d : Int) : RecBox (set4 W m a b c d) m ⟨k, t, 0, a, b, c, d, false, 0, false, 0⟩ := by
  obtain ⟨⟨c0, c1, c2, c3, c4, c5, c6, c7, c8, c9, c10⟩, fz⟩ := h
  dsimp only at c0 c1 c2 c3 c4 c5 c6 c7 c8 c9 c10
  unfold set4
  refine ⟨⟨?_, ?_, ?_, ?_, ?_, ?_, ?_, ?_, ?_, ?_, ?_⟩, fun i => by simp only [World.frozen?_setCell]; exact fz i⟩
  all_goals simp [go_sem, c0, c1, c2, c3, c4, c5, c6, c7, c8, c9, c10]
def headR (h : Nat) : RecD := ⟨((h % 8 : Nat) : Int) + 1, ((h / 8 : Nat) : Int), 0, 0, 0, 0, 0, false, 0, false, 0⟩
set_option maxRecDepth 100000 in
set_option maxHeartbeats 2000000 in
theorem read_any (A : Option Addr) (l c : Nat) (zs : List Int) (hl : zs.length = l) (hz : isBytes zs) (w : World) (g : Good A c zs w) :
    Calls Try.prog 62 #[.slice A l c] w fun e w' => e = .returned (recV (readL zs)) ∧ Below w.heap.size w w' := by
  have hcl : ((zs.take 24).map (Value.int .u8)).length = Nat.min l 24 := by rw [List.length_map, List.length_take, hl]; exact Nat.min_comm _ _
  have HCL := Lib.hid hcl
  have hfit : 0 + ((zs.take 24).map (Value.int .u8)).length ≤ z24.length := by
    have h24 : z24.length = 24 := by simp [z24, zeros]
    rw [hcl, Nat.zero_add, h24]
    exact Nat.min_le_right _ _
  have HF := Lib.hid hfit
  have HG := fun W (h : Below w.heap.size w W) => Lib.hid (src_cells (g.below h) (w.heap.size + 1))
  have hpz := pad_bytes hz
  have hpl := pad_length zs
  unfold readL
  have HS := Lib.hid (splice_pad zs)
  have HW := Lib.hid (recBox_new w zeroR)
  clear hcl hfit hl hz g
  generalize hpd : pad zs = ps at *
  clear hpd
  obtain ⟨h, hh⟩ : ∃ h, fromN (ps.take 3) = h := ⟨_, rfl⟩
  have hh3 : h < 16777216 := by rw [← hh]; exact fromN_k ps hpz 3
  have hun := head_un h hh3
  have F1 : ∀ W, Calls Try.prog 58 #[] W fun e w' => ∃ A, e = .returned (.slice A 2 2) ∧ Ints .i64 w'.heap.size w' A [3, 21] ∧ Below W.heap.size W w' := fun W => (headWidths_any W).mono fun e w' h => ⟨_, h⟩
  have F2 : ∀ A2 W, Good (some ⟨w.heap.size + 1, 0, none⟩) 24 ps W → Ints .i64 W.heap.size W A2 [3, 21] → Calls Try.prog 75 #[.slice (some ⟨w.heap.size + 1, 0, none⟩) 24 24, .int .i64 3, .slice A2 2 2] W fun e w' => ∃ d, e = .returned (.tuple #[.slice (some ⟨d, 0, none⟩) 2 2, .slice (some ⟨w.heap.size + 1, 3, none⟩) 21 21]) ∧ Ints .i64 w'.heap.size w' (some ⟨d, 0, none⟩) (unpackL [3, 21] h) ∧ W.heap.size ≤ d ∧ d < w'.heap.size ∧ Below W.heap.size W w' := fun A2 W hg hi => by
    have := unpacked_any (w.heap.size + 1) 0 24 24 3 2 2 h ps [3, 21] A2 hpl (by omega) (by omega) (by omega) hpz rfl (by omega) hh hun.1 W hg hi
    unfold UnpSays at this
    simpa using this
  rw [hun.2] at F2
  clear hun
  have HP := Lib.hid hpl
  clear hpl
  go_enter Try.func62, Try.ntmps62
  go_wp2_with (refine wpList_copy_splice (o := ⟨some 11, _, _, _, _, _⟩) rfl (.tmp 9) (.tmp 10) _ _ rfl 5 Try.underlying52 size_u8 (some ⟨w.heap.size + 1, 0, none⟩) A 24 24 l c rfl rfl (w.heap.size + 1) 0 z24 125 (heap2n _ _ _) ((zs.take 24).map (Value.int .u8)) HCL.out (HG _ (below2 _ _ _)).out HF.out (one_u8 _) (w.heap.size + 1) _ ((Below.refl _ _).alloc (by simp) _) (Nat.le_refl _) ?_; intro w1 hg1 kb1; have gP := pad_good' (hg1.out.trans (by rw [HS.out])) HP.out; have rb1 := HW.out.below kb1 (by omega); have kw1 := ((Below.refl _ w).alloc (Nat.le_refl _) _).trans (kb1.mono (by omega)); clear hg1 kb1)
  clear HCL HF HG HS HW
  have hb2 : w.heap.size + 2 ≤ w1.heap.size := by
    obtain ⟨b', o', e', hlt, _⟩ := gP.1 (by rw [HP.out]; omega)
    cases e'
    omega
  have gPd : Good (some ⟨w.heap.size + 1, 0, none⟩) 24 ps w1.drew := gP.drewN 1
  have kd1 : Below w1.heap.size w1 w1.drew := (Below.refl _ _).drew
  go_region_held3 (fun _ => True) (exact trivial) (first
    | (go_at_call 58; (with_reducible refine (F1 _).mono ?_); rintro e w2 ⟨A2, rfl, i2, k2⟩; have k2 : Below w1.heap.size w1 w2 := kd1.trans k2)
    | (go_at_call 75; (with_reducible refine (F2 _ _ (gP.below k2) i2).mono ?_); rintro e w3 ⟨d, rfl, i3, hd, hd2, k3⟩))
  have k13 : Below w1.heap.size w1 w3 := below_more k2 k3 (Nat.le_refl _)
  have rb3 := rb1.below k13 (by omega)
  have gR3 : Good (some ⟨w.heap.size + 1, 3, none⟩) 21 (ps.drop 3) w3 := (gP.below k13).drop 3 (by rw [HP.out]; omega)
  have kw3 := below_more kw1 k13 (Nat.le_refl _)
  have hs3 : w.heap.size + 2 ≤ d := by have := k2.size; omega
  obtain ⟨d', o', e', hdlt, hdc⟩ := i3 (by simp)
  cases e'
  have e0 : w3.cell? ⟨d, 0, none⟩ = some (.int .i64 ((h % 8 : Nat) : Int)) := hdc 0 (by simp)
  have e1 : w3.cell? ⟨d, 1, none⟩ = some (.int .i64 ((h / 8 : Nat) : Int)) := hdc 1 (by simp)
  clear hdc i3 i2 F1 F2 gP gPd kd1 k2 k3 k13 rb1 kw1 hd hdlt hb2
  obtain ⟨x, hx⟩ : ∃ x, h % 8 = x := ⟨_, rfl⟩
  obtain ⟨y, hy⟩ : ∃ y, h / 8 = y := ⟨_, rfl⟩
  rw [hx] at e0
  rw [hy] at e1
  have hx7 : x ≤ 7 := by omega
  have hy2 : y < 2097152 := by omega
  have HX := Lib.hid hx
  have HY := Lib.hid hy
  have HH := Lib.hid hh
  clear hx hy hh hh3
  obtain ⟨kI, hkI⟩ : ∃ kI : Int, (x : Int) + 1 = kI := ⟨_, rfl⟩
  have hwr : IntKind.i64.wrap ((x : Int) + 1) = kI := by rw [← hkI]; exact IntWalk.i64_in _ (by omega)
  have HK := Lib.hid hkI
  clear hkI
  have ea0 : ∀ o, (w3.alloc o).cell? ⟨d, 0, none⟩ = some (.int .i64 x) := fun o => (World.cell?_alloc_lt w3 o ⟨d, 0, none⟩ hd2).trans e0
  have ea1 : ∀ o, (w3.alloc o).cell? ⟨d, 1, none⟩ = some (.int .i64 y) := fun o => (World.cell?_alloc_lt w3 o ⟨d, 1, none⟩ hd2).trans e1
  go_wp2_with fail
  go_region
  have rm4 : RecBox (w3.alloc (.cells #[.int .i64 kI, .int .i64 y, .int .u16 0, .int .u8 0, .int .u8 0, .int .u8 0, .int .u8 0, .bool false, .int .i64 0, .bool false, .int .i64 0] 48)).drew w3.heap.size ⟨kI, y, 0, 0, 0, 0, 0, false, 0, false, 0⟩ := (recBox_new w3 ⟨kI, y, 0, 0, 0, 0, 0, false, 0, false, 0⟩).drew
  have kd : Below w3.heap.size w3 (w3.alloc (.cells #[.int .i64 kI, .int .i64 y, .int .u16 0, .int .u8 0, .int .u8 0, .int .u8 0, .int .u8 0, .bool false, .int .i64 0, .bool false, .int .i64 0] 48)).drew := ((Below.refl _ _).alloc (Nat.le_refl _) _).drew
  have rb4 := rb3.below kd (by omega)
  have gR4 := gR3.below kd
  have kw4 := below_more kw3 kd (Nat.le_refl _)
  have hmn : w.heap.size ≠ w3.heap.size ∧ w3.heap.size ≠ w.heap.size ∧ w.heap.size ≤ w3.heap.size ∧ w.heap.size + 1 ≠ w3.heap.size := by omega
  have hms : w3.heap.size < (w3.alloc (.cells #[.int .i64 kI, .int .i64 y, .int .u16 0, .int .u8 0, .int .u8 0, .int .u8 0, .int .u8 0, .bool false, .int .i64 0, .bool false, .int .i64 0] 48)).drew.heap.size := by show _ < (w3.alloc _).heap.size; simp
  have hns : w.heap.size < (w3.alloc (.cells #[.int .i64 kI, .int .i64 y, .int .u16 0, .int .u8 0, .int .u8 0, .int .u8 0, .int .u8 0, .bool false, .int .i64 0, .bool false, .int .i64 0] 48)).drew.heap.size := by omega
  clear ea0 ea1 e0 e1 kd rb3 gR3 kw3 hs3 hd2 hwr k2
  generalize (w3.alloc (.cells #[.int .i64 kI, .int .i64 y, .int .u16 0, .int .u8 0, .int .u8 0, .int .u8 0, .int .u8 0, .bool false, .int .i64 0, .bool false, .int .i64 0] 48)).drew = w4 at *
  generalize w3.heap.size = m at *
  obtain ⟨hmn1, hmn2, hmn3, hmn4⟩ := hmn
  have mk := rm4.at_.c0
  cases h2 : (kI == 2)
  · cases h8 : (kI == 8)
    · cases h1 : (kI == 1)
      · cases h7 : (kI == 7)
        · skip
          have HE : Hid (recV (read24 ps) = .agg #[.int .i64 kI, .int .i64 y, .int .u16 0, .int .u8 0, .int .u8 0, .int .u8 0, .int .u8 0, .bool false, .int .i64 0, .bool false, .int .i64 0]) := by
            apply Lib.hid
            have hk2 : ¬ (((h % 8 : Nat) : Int) + 1 = 2 ∨ ((h % 8 : Nat) : Int) + 1 = 8) := by have := HX.out; have := HK.out; simp at h2 h8; omega
            have hk1 : ¬ (((h % 8 : Nat) : Int) + 1 = 1 ∨ ((h % 8 : Nat) : Int) + 1 = 7) := by have := HX.out; have := HK.out; simp at h1 h7; omega
            unfold read24
            simp only [HH.out]
            rw [if_neg hk2, if_neg hk1, HX.out, HY.out, HK.out]
            rfl
          have mc0 : w4.cell? ⟨m, 0, none⟩ = some (.int .i64 kI) := rm4.at_.c0
          have mf0 : w4.frozen? ⟨m, 0, none⟩ = false := rm4.fz 0
          have mc1 : w4.cell? ⟨m, 1, none⟩ = some (.int .i64 y) := rm4.at_.c1
          have mf1 : w4.frozen? ⟨m, 1, none⟩ = false := rm4.fz 1
          have mc2 : w4.cell? ⟨m, 2, none⟩ = some (.int .u16 0) := rm4.at_.c2
          have mf2 : w4.frozen? ⟨m, 2, none⟩ = false := rm4.fz 2
          have mc3 : w4.cell? ⟨m, 3, none⟩ = some (.int .u8 0) := rm4.at_.c3
          have mf3 : w4.frozen? ⟨m, 3, none⟩ = false := rm4.fz 3
          have mc4 : w4.cell? ⟨m, 4, none⟩ = some (.int .u8 0) := rm4.at_.c4
          have mf4 : w4.frozen? ⟨m, 4, none⟩ = false := rm4.fz 4
          have mc5 : w4.cell? ⟨m, 5, none⟩ = some (.int .u8 0) := rm4.at_.c5
          have mf5 : w4.frozen? ⟨m, 5, none⟩ = false := rm4.fz 5
          have mc6 : w4.cell? ⟨m, 6, none⟩ = some (.int .u8 0) := rm4.at_.c6
          have mf6 : w4.frozen? ⟨m, 6, none⟩ = false := rm4.fz 6
          have mc7 : w4.cell? ⟨m, 7, none⟩ = some (.bool false) := rm4.at_.c7
          have mf7 : w4.frozen? ⟨m, 7, none⟩ = false := rm4.fz 7
          have mc8 : w4.cell? ⟨m, 8, none⟩ = some (.int .i64 0) := rm4.at_.c8
          have mf8 : w4.frozen? ⟨m, 8, none⟩ = false := rm4.fz 8
          have mc9 : w4.cell? ⟨m, 9, none⟩ = some (.bool false) := rm4.at_.c9
          have mf9 : w4.frozen? ⟨m, 9, none⟩ = false := rm4.fz 9
          have mc10 : w4.cell? ⟨m, 10, none⟩ = some (.int .i64 0) := rm4.at_.c10
          have mf10 : w4.frozen? ⟨m, 10, none⟩ = false := rm4.fz 10
          have nc0 : w4.cell? ⟨w.heap.size, 0, none⟩ = some (.int .i64 0) := rb4.at_.c0
          have nf0 : w4.frozen? ⟨w.heap.size, 0, none⟩ = false := rb4.fz 0
          have nc1 : w4.cell? ⟨w.heap.size, 1, none⟩ = some (.int .i64 0) := rb4.at_.c1
          have nf1 : w4.frozen? ⟨w.heap.size, 1, none⟩ = false := rb4.fz 1
          have nc2 : w4.cell? ⟨w.heap.size, 2, none⟩ = some (.int .u16 0) := rb4.at_.c2
          have nf2 : w4.frozen? ⟨w.heap.size, 2, none⟩ = false := rb4.fz 2
          have nc3 : w4.cell? ⟨w.heap.size, 3, none⟩ = some (.int .u8 0) := rb4.at_.c3
          have nf3 : w4.frozen? ⟨w.heap.size, 3, none⟩ = false := rb4.fz 3
          have nc4 : w4.cell? ⟨w.heap.size, 4, none⟩ = some (.int .u8 0) := rb4.at_.c4
          have nf4 : w4.frozen? ⟨w.heap.size, 4, none⟩ = false := rb4.fz 4
          have nc5 : w4.cell? ⟨w.heap.size, 5, none⟩ = some (.int .u8 0) := rb4.at_.c5
          have nf5 : w4.frozen? ⟨w.heap.size, 5, none⟩ = false := rb4.fz 5
          have nc6 : w4.cell? ⟨w.heap.size, 6, none⟩ = some (.int .u8 0) := rb4.at_.c6
          have nf6 : w4.frozen? ⟨w.heap.size, 6, none⟩ = false := rb4.fz 6
          have nc7 : w4.cell? ⟨w.heap.size, 7, none⟩ = some (.bool false) := rb4.at_.c7
          have nf7 : w4.frozen? ⟨w.heap.size, 7, none⟩ = false := rb4.fz 7
          have nc8 : w4.cell? ⟨w.heap.size, 8, none⟩ = some (.int .i64 0) := rb4.at_.c8
          have nf8 : w4.frozen? ⟨w.heap.size, 8, none⟩ = false := rb4.fz 8
          have nc9 : w4.cell? ⟨w.heap.size, 9, none⟩ = some (.bool false) := rb4.at_.c9
          have nf9 : w4.frozen? ⟨w.heap.size, 9, none⟩ = false := rb4.fz 9
          have nc10 : w4.cell? ⟨w.heap.size, 10, none⟩ = some (.int .i64 0) := rb4.at_.c10
          have nf10 : w4.frozen? ⟨w.heap.size, 10, none⟩ = false := rb4.fz 10
          go_wp2
          refine bodyPost_ret (v := .agg #[.int .i64 kI, .int .i64 y, .int .u16 0, .int .u8 0, .int .u8 0, .int .u8 0, .int .u8 0, .bool false, .int .i64 0, .bool false, .int .i64 0]) ?_ rfl ⟨by rw [HE.out], ?_⟩
          · simp [results, Try.results62, go_sem, nc0, nc1, nc2, nc3, nc4, nc5, nc6, nc7, nc8, nc9, nc10]
          · repeat first | with_reducible exact kw4 | with_reducible refine below_sc ?_ (Nat.le_refl _) _ | with_reducible refine below_sc ?_ hmn3 _ | with_reducible refine Below.drew ?_
        · skip
          obtain ⟨u, hu⟩ : ∃ u, fromN ((ps.drop 7).take 1) = u := ⟨_, rfl⟩
          have hl17 : (ps.drop 7).length = 17 := by rw [List.length_drop, HP.out]
          have gR7 : ∀ W, Good (some ⟨w.heap.size + 1, 3, none⟩) 21 (ps.drop 3) W → Good (some ⟨w.heap.size + 1, 7, none⟩) 17 (ps.drop 7) W := fun W hg => by
            have := hg.drop 4 (by rw [List.length_drop, HP.out]; omega)
            rw [List.drop_drop] at this
            exact this
          have F4 := fun W (hg : Good (some ⟨w.heap.size + 1, 7, none⟩) 17 (ps.drop 7) W) => readVals_any (w.heap.size + 1) 7 u (ps.drop 7) hl17 (hpz.drop 7) hu W hg
          rw [List.drop_drop] at F4
          unfold RvsSays at F4
          have HE : Hid (recV (read24 ps) = .agg #[.int .i64 kI, .int .i64 y, .int .u16 0, .int .u8 (ps[3]?.getD 0), .int .u8 (ps[4]?.getD 0), .int .u8 (ps[5]?.getD 0), .int .u8 (ps[6]?.getD 0), .bool (rdT (u % 2)), .int .i64 (rdN (ps.drop (7 + 1)) (u % 2) (u / 4 % 8)), .bool (rdT (u / 2 % 2)), .int .i64 (rdN (rdR (ps.drop (7 + 1)) (u % 2) (u / 4 % 8)) (u / 2 % 2) (u / 32 % 8))]) := by
            apply Lib.hid
            have hk2 : ¬ (((h % 8 : Nat) : Int) + 1 = 2 ∨ ((h % 8 : Nat) : Int) + 1 = 8) := by have := HX.out; have := HK.out; simp at h2 h8; omega
            have hk1 : ((h % 8 : Nat) : Int) + 1 = 1 ∨ ((h % 8 : Nat) : Int) + 1 = 7 := by have := HX.out; have := HK.out; simp at h7; omega
            unfold read24
            simp only [HH.out]
            rw [if_neg hk2, if_pos hk1, HX.out, HY.out, HK.out, hu]
            rfl
          generalize rdN (rdR (ps.drop (7 + 1)) (u % 2) (u / 4 % 8)) (u / 2 % 2) (u / 32 % 8) = n2 at *
          generalize rdN (ps.drop (7 + 1)) (u % 2) (u / 4 % 8) = n1 at *
          generalize rdT (u % 2) = t1 at *
          generalize rdT (u / 2 % 2) = t2 at *
          have kc : ∀ j, j < 4 → w4.cell? ⟨w.heap.size + 1, 3 + j, none⟩ = some (.int .u8 (ps[3 + j]?.getD 0)) := fun j hj => by
            obtain ⟨b', o', e', _, hc⟩ := gR4.1 (by rw [List.length_drop, HP.out]; omega)
            cases e'
            rw [hc j (by rw [List.length_drop, HP.out]; omega), List.getElem?_drop]
          have p3 : w4.cell? ⟨w.heap.size + 1, 3, none⟩ = some (.int .u8 (ps[3]?.getD 0)) := kc 0 (by omega)
          have p4 : w4.cell? ⟨w.heap.size + 1, 4, none⟩ = some (.int .u8 (ps[4]?.getD 0)) := kc 1 (by omega)
          have p5 : w4.cell? ⟨w.heap.size + 1, 5, none⟩ = some (.int .u8 (ps[5]?.getD 0)) := kc 2 (by omega)
          have p6 : w4.cell? ⟨w.heap.size + 1, 6, none⟩ = some (.int .u8 (ps[6]?.getD 0)) := kc 3 (by omega)
          generalize ps[3]?.getD 0 = z3 at *
          generalize ps[4]?.getD 0 = z4 at *
          generalize ps[5]?.getD 0 = z5 at *
          generalize ps[6]?.getD 0 = z6 at *
          have hG7 := gR7 w4 gR4
          have hat : ∀ W, (Instr.arrayAt 44 (.slice (some ⟨w.heap.size + 1, 3, none⟩) 4 21)).run Try.prog W = .ok (.pointer (some ⟨w.heap.size + 1, 3, none⟩)) W := fun W => run_arrayAt W 44 _ 4 _ 4 21 Try.underlying44 (by omega)
          have RM5 := box_key rm4 z3 z4 z5 z6
          have RB5 := box_sc (box_sc (box_sc (box_sc rb4 m 3 (.int .u8 z3) hmn1) m 4 (.int .u8 z4) hmn1) m 5 (.int .u8 z5) hmn1) m 6 (.int .u8 z6) hmn1
          have G5 := good_sc (good_sc (good_sc (good_sc hG7 m 3 (.int .u8 z3) hmn4) m 4 (.int .u8 z4) hmn4) m 5 (.int .u8 z5) hmn4) m 6 (.int .u8 z6) hmn4
          have KW5 := below_sc (below_sc (below_sc (below_sc kw4 hmn3 (i := 3) (.int .u8 z3)) hmn3 (i := 4) (.int .u8 z4)) hmn3 (i := 5) (.int .u8 z5)) hmn3 (i := 6) (.int .u8 z6)
          have hms5 : m < (set4 w4 m z3 z4 z5 z6).heap.size ∧ w.heap.size < (set4 w4 m z3 z4 z5 z6).heap.size := by unfold set4; simp; omega
          unfold set4 at RM5 hms5
          clear hu hl17 gR7 kc gR4 hG7
          have mc0 : w4.cell? ⟨m, 0, none⟩ = some (.int .i64 kI) := rm4.at_.c0
          have mf0 : w4.frozen? ⟨m, 0, none⟩ = false := rm4.fz 0
          have mc1 : w4.cell? ⟨m, 1, none⟩ = some (.int .i64 y) := rm4.at_.c1
          have mf1 : w4.frozen? ⟨m, 1, none⟩ = false := rm4.fz 1
          have mc2 : w4.cell? ⟨m, 2, none⟩ = some (.int .u16 0) := rm4.at_.c2
          have mf2 : w4.frozen? ⟨m, 2, none⟩ = false := rm4.fz 2
          have mc3 : w4.cell? ⟨m, 3, none⟩ = some (.int .u8 0) := rm4.at_.c3
          have mf3 : w4.frozen? ⟨m, 3, none⟩ = false := rm4.fz 3
          have mc4 : w4.cell? ⟨m, 4, none⟩ = some (.int .u8 0) := rm4.at_.c4
          have mf4 : w4.frozen? ⟨m, 4, none⟩ = false := rm4.fz 4
          have mc5 : w4.cell? ⟨m, 5, none⟩ = some (.int .u8 0) := rm4.at_.c5
          have mf5 : w4.frozen? ⟨m, 5, none⟩ = false := rm4.fz 5
          have mc6 : w4.cell? ⟨m, 6, none⟩ = some (.int .u8 0) := rm4.at_.c6
          have mf6 : w4.frozen? ⟨m, 6, none⟩ = false := rm4.fz 6
          have mc7 : w4.cell? ⟨m, 7, none⟩ = some (.bool false) := rm4.at_.c7
          have mf7 : w4.frozen? ⟨m, 7, none⟩ = false := rm4.fz 7
          have mc8 : w4.cell? ⟨m, 8, none⟩ = some (.int .i64 0) := rm4.at_.c8
          have mf8 : w4.frozen? ⟨m, 8, none⟩ = false := rm4.fz 8
          have mc9 : w4.cell? ⟨m, 9, none⟩ = some (.bool false) := rm4.at_.c9
          have mf9 : w4.frozen? ⟨m, 9, none⟩ = false := rm4.fz 9
          have mc10 : w4.cell? ⟨m, 10, none⟩ = some (.int .i64 0) := rm4.at_.c10
          have mf10 : w4.frozen? ⟨m, 10, none⟩ = false := rm4.fz 10
          go_wp2_with fail
          (with_reducible refine (F4 _ G5).mono ?_)
          rintro e w6 ⟨rfl, k6⟩
          have rm6 := RM5.below k6 hms5.1
          have rb6 := RB5.below k6 hms5.2
          have kw6 := below_more KW5 k6 (Nat.le_refl _)
          clear F4 mk RM5 RB5 G5 KW5 hms5 p3 p4 p5 p6 hat mc0 mf0 mc1 mf1 mc2 mf2 mc3 mf3 mc4 mf4 mc5 mf5 mc6 mf6 mc7 mf7 mc8 mf8 mc9 mf9 mc10 mf10
          have mc0 : w6.cell? ⟨m, 0, none⟩ = some (.int .i64 kI) := rm6.at_.c0
          have mf0 : w6.frozen? ⟨m, 0, none⟩ = false := rm6.fz 0
          have mc1 : w6.cell? ⟨m, 1, none⟩ = some (.int .i64 y) := rm6.at_.c1
          have mf1 : w6.frozen? ⟨m, 1, none⟩ = false := rm6.fz 1
          have mc2 : w6.cell? ⟨m, 2, none⟩ = some (.int .u16 0) := rm6.at_.c2
          have mf2 : w6.frozen? ⟨m, 2, none⟩ = false := rm6.fz 2
          have mc3 : w6.cell? ⟨m, 3, none⟩ = some (.int .u8 z3) := rm6.at_.c3
          have mf3 : w6.frozen? ⟨m, 3, none⟩ = false := rm6.fz 3
          have mc4 : w6.cell? ⟨m, 4, none⟩ = some (.int .u8 z4) := rm6.at_.c4
          have mf4 : w6.frozen? ⟨m, 4, none⟩ = false := rm6.fz 4
          have mc5 : w6.cell? ⟨m, 5, none⟩ = some (.int .u8 z5) := rm6.at_.c5
          have mf5 : w6.frozen? ⟨m, 5, none⟩ = false := rm6.fz 5
          have mc6 : w6.cell? ⟨m, 6, none⟩ = some (.int .u8 z6) := rm6.at_.c6
          have mf6 : w6.frozen? ⟨m, 6, none⟩ = false := rm6.fz 6
          have mc7 : w6.cell? ⟨m, 7, none⟩ = some (.bool false) := rm6.at_.c7
          have mf7 : w6.frozen? ⟨m, 7, none⟩ = false := rm6.fz 7
          have mc8 : w6.cell? ⟨m, 8, none⟩ = some (.int .i64 0) := rm6.at_.c8
          have mf8 : w6.frozen? ⟨m, 8, none⟩ = false := rm6.fz 8
          have mc9 : w6.cell? ⟨m, 9, none⟩ = some (.bool false) := rm6.at_.c9
          have mf9 : w6.frozen? ⟨m, 9, none⟩ = false := rm6.fz 9
          have mc10 : w6.cell? ⟨m, 10, none⟩ = some (.int .i64 0) := rm6.at_.c10
          have mf10 : w6.frozen? ⟨m, 10, none⟩ = false := rm6.fz 10
          have nc0 : w6.cell? ⟨w.heap.size, 0, none⟩ = some (.int .i64 0) := rb6.at_.c0
          have nf0 : w6.frozen? ⟨w.heap.size, 0, none⟩ = false := rb6.fz 0
          have nc1 : w6.cell? ⟨w.heap.size, 1, none⟩ = some (.int .i64 0) := rb6.at_.c1
          have nf1 : w6.frozen? ⟨w.heap.size, 1, none⟩ = false := rb6.fz 1
          have nc2 : w6.cell? ⟨w.heap.size, 2, none⟩ = some (.int .u16 0) := rb6.at_.c2
          have nf2 : w6.frozen? ⟨w.heap.size, 2, none⟩ = false := rb6.fz 2
          have nc3 : w6.cell? ⟨w.heap.size, 3, none⟩ = some (.int .u8 0) := rb6.at_.c3
          have nf3 : w6.frozen? ⟨w.heap.size, 3, none⟩ = false := rb6.fz 3
          have nc4 : w6.cell? ⟨w.heap.size, 4, none⟩ = some (.int .u8 0) := rb6.at_.c4
          have nf4 : w6.frozen? ⟨w.heap.size, 4, none⟩ = false := rb6.fz 4
          have nc5 : w6.cell? ⟨w.heap.size, 5, none⟩ = some (.int .u8 0) := rb6.at_.c5
          have nf5 : w6.frozen? ⟨w.heap.size, 5, none⟩ = false := rb6.fz 5
          have nc6 : w6.cell? ⟨w.heap.size, 6, none⟩ = some (.int .u8 0) := rb6.at_.c6
          have nf6 : w6.frozen? ⟨w.heap.size, 6, none⟩ = false := rb6.fz 6
          have nc7 : w6.cell? ⟨w.heap.size, 7, none⟩ = some (.bool false) := rb6.at_.c7
          have nf7 : w6.frozen? ⟨w.heap.size, 7, none⟩ = false := rb6.fz 7
          have nc8 : w6.cell? ⟨w.heap.size, 8, none⟩ = some (.int .i64 0) := rb6.at_.c8
          have nf8 : w6.frozen? ⟨w.heap.size, 8, none⟩ = false := rb6.fz 8
          have nc9 : w6.cell? ⟨w.heap.size, 9, none⟩ = some (.bool false) := rb6.at_.c9
          have nf9 : w6.frozen? ⟨w.heap.size, 9, none⟩ = false := rb6.fz 9
          have nc10 : w6.cell? ⟨w.heap.size, 10, none⟩ = some (.int .i64 0) := rb6.at_.c10
          have nf10 : w6.frozen? ⟨w.heap.size, 10, none⟩ = false := rb6.fz 10
          go_wp2
          refine bodyPost_ret (v := .agg #[.int .i64 kI, .int .i64 y, .int .u16 0, .int .u8 z3, .int .u8 z4, .int .u8 z5, .int .u8 z6, .bool t1, .int .i64 n1, .bool t2, .int .i64 n2]) ?_ rfl ⟨by rw [HE.out], ?_⟩
          · simp [results, Try.results62, go_sem, nc0, nc1, nc2, nc3, nc4, nc5, nc6, nc7, nc8, nc9, nc10]
          · repeat first | with_reducible exact kw6 | with_reducible refine below_sc ?_ (Nat.le_refl _) _ | with_reducible refine below_sc ?_ hmn3 _ | with_reducible refine Below.drew ?_
      · skip
        obtain ⟨u, hu⟩ : ∃ u, fromN ((ps.drop 7).take 1) = u := ⟨_, rfl⟩
        have hl17 : (ps.drop 7).length = 17 := by rw [List.length_drop, HP.out]
        have gR7 : ∀ W, Good (some ⟨w.heap.size + 1, 3, none⟩) 21 (ps.drop 3) W → Good (some ⟨w.heap.size + 1, 7, none⟩) 17 (ps.drop 7) W := fun W hg => by
          have := hg.drop 4 (by rw [List.length_drop, HP.out]; omega)
          rw [List.drop_drop] at this
          exact this
        have F4 := fun W (hg : Good (some ⟨w.heap.size + 1, 7, none⟩) 17 (ps.drop 7) W) => readVals_any (w.heap.size + 1) 7 u (ps.drop 7) hl17 (hpz.drop 7) hu W hg
        rw [List.drop_drop] at F4
        unfold RvsSays at F4
        have HE : Hid (recV (read24 ps) = .agg #[.int .i64 kI, .int .i64 y, .int .u16 0, .int .u8 (ps[3]?.getD 0), .int .u8 (ps[4]?.getD 0), .int .u8 (ps[5]?.getD 0), .int .u8 (ps[6]?.getD 0), .bool (rdT (u % 2)), .int .i64 (rdN (ps.drop (7 + 1)) (u % 2) (u / 4 % 8)), .bool (rdT (u / 2 % 2)), .int .i64 (rdN (rdR (ps.drop (7 + 1)) (u % 2) (u / 4 % 8)) (u / 2 % 2) (u / 32 % 8))]) := by
          apply Lib.hid
          have hk2 : ¬ (((h % 8 : Nat) : Int) + 1 = 2 ∨ ((h % 8 : Nat) : Int) + 1 = 8) := by have := HX.out; have := HK.out; simp at h2 h8; omega
          have hk1 : ((h % 8 : Nat) : Int) + 1 = 1 ∨ ((h % 8 : Nat) : Int) + 1 = 7 := by have := HX.out; have := HK.out; simp at h1; omega
          unfold read24
          simp only [HH.out]
          rw [if_neg hk2, if_pos hk1, HX.out, HY.out, HK.out, hu]
          rfl
        generalize rdN (rdR (ps.drop (7 + 1)) (u % 2) (u / 4 % 8)) (u / 2 % 2) (u / 32 % 8) = n2 at *
        generalize rdN (ps.drop (7 + 1)) (u % 2) (u / 4 % 8) = n1 at *
        generalize rdT (u % 2) = t1 at *
        generalize rdT (u / 2 % 2) = t2 at *
        have kc : ∀ j, j < 4 → w4.cell? ⟨w.heap.size + 1, 3 + j, none⟩ = some (.int .u8 (ps[3 + j]?.getD 0)) := fun j hj => by
          obtain ⟨b', o', e', _, hc⟩ := gR4.1 (by rw [List.length_drop, HP.out]; omega)
          cases e'
          rw [hc j (by rw [List.length_drop, HP.out]; omega), List.getElem?_drop]
        have p3 : w4.cell? ⟨w.heap.size + 1, 3, none⟩ = some (.int .u8 (ps[3]?.getD 0)) := kc 0 (by omega)
        have p4 : w4.cell? ⟨w.heap.size + 1, 4, none⟩ = some (.int .u8 (ps[4]?.getD 0)) := kc 1 (by omega)
        have p5 : w4.cell? ⟨w.heap.size + 1, 5, none⟩ = some (.int .u8 (ps[5]?.getD 0)) := kc 2 (by omega)
        have p6 : w4.cell? ⟨w.heap.size + 1, 6, none⟩ = some (.int .u8 (ps[6]?.getD 0)) := kc 3 (by omega)
        generalize ps[3]?.getD 0 = z3 at *
        generalize ps[4]?.getD 0 = z4 at *
        generalize ps[5]?.getD 0 = z5 at *
        generalize ps[6]?.getD 0 = z6 at *
        have hG7 := gR7 w4 gR4
        have hat : ∀ W, (Instr.arrayAt 44 (.slice (some ⟨w.heap.size + 1, 3, none⟩) 4 21)).run Try.prog W = .ok (.pointer (some ⟨w.heap.size + 1, 3, none⟩)) W := fun W => run_arrayAt W 44 _ 4 _ 4 21 Try.underlying44 (by omega)
        have RM5 := box_key rm4 z3 z4 z5 z6
        have RB5 := box_sc (box_sc (box_sc (box_sc rb4 m 3 (.int .u8 z3) hmn1) m 4 (.int .u8 z4) hmn1) m 5 (.int .u8 z5) hmn1) m 6 (.int .u8 z6) hmn1
        have G5 := good_sc (good_sc (good_sc (good_sc hG7 m 3 (.int .u8 z3) hmn4) m 4 (.int .u8 z4) hmn4) m 5 (.int .u8 z5) hmn4) m 6 (.int .u8 z6) hmn4
        have KW5 := below_sc (below_sc (below_sc (below_sc kw4 hmn3 (i := 3) (.int .u8 z3)) hmn3 (i := 4) (.int .u8 z4)) hmn3 (i := 5) (.int .u8 z5)) hmn3 (i := 6) (.int .u8 z6)
        have hms5 : m < (set4 w4 m z3 z4 z5 z6).heap.size ∧ w.heap.size < (set4 w4 m z3 z4 z5 z6).heap.size := by unfold set4; simp; omega
        unfold set4 at RM5 hms5
        clear hu hl17 gR7 kc gR4 hG7
        have mc0 : w4.cell? ⟨m, 0, none⟩ = some (.int .i64 kI) := rm4.at_.c0
        have mf0 : w4.frozen? ⟨m, 0, none⟩ = false := rm4.fz 0
        have mc1 : w4.cell? ⟨m, 1, none⟩ = some (.int .i64 y) := rm4.at_.c1
        have mf1 : w4.frozen? ⟨m, 1, none⟩ = false := rm4.fz 1
        have mc2 : w4.cell? ⟨m, 2, none⟩ = some (.int .u16 0) := rm4.at_.c2
        have mf2 : w4.frozen? ⟨m, 2, none⟩ = false := rm4.fz 2
        have mc3 : w4.cell? ⟨m, 3, none⟩ = some (.int .u8 0) := rm4.at_.c3
        have mf3 : w4.frozen? ⟨m, 3, none⟩ = false := rm4.fz 3
        have mc4 : w4.cell? ⟨m, 4, none⟩ = some (.int .u8 0) := rm4.at_.c4
        have mf4 : w4.frozen? ⟨m, 4, none⟩ = false := rm4.fz 4
        have mc5 : w4.cell? ⟨m, 5, none⟩ = some (.int .u8 0) := rm4.at_.c5
        have mf5 : w4.frozen? ⟨m, 5, none⟩ = false := rm4.fz 5
        have mc6 : w4.cell? ⟨m, 6, none⟩ = some (.int .u8 0) := rm4.at_.c6
        have mf6 : w4.frozen? ⟨m, 6, none⟩ = false := rm4.fz 6
        have mc7 : w4.cell? ⟨m, 7, none⟩ = some (.bool false) := rm4.at_.c7
        have mf7 : w4.frozen? ⟨m, 7, none⟩ = false := rm4.fz 7
        have mc8 : w4.cell? ⟨m, 8, none⟩ = some (.int .i64 0) := rm4.at_.c8
        have mf8 : w4.frozen? ⟨m, 8, none⟩ = false := rm4.fz 8
        have mc9 : w4.cell? ⟨m, 9, none⟩ = some (.bool false) := rm4.at_.c9
        have mf9 : w4.frozen? ⟨m, 9, none⟩ = false := rm4.fz 9
        have mc10 : w4.cell? ⟨m, 10, none⟩ = some (.int .i64 0) := rm4.at_.c10
        have mf10 : w4.frozen? ⟨m, 10, none⟩ = false := rm4.fz 10
        go_wp2_with fail
        (with_reducible refine (F4 _ G5).mono ?_)
        rintro e w6 ⟨rfl, k6⟩
        have rm6 := RM5.below k6 hms5.1
        have rb6 := RB5.below k6 hms5.2
        have kw6 := below_more KW5 k6 (Nat.le_refl _)
        clear F4 mk RM5 RB5 G5 KW5 hms5 p3 p4 p5 p6 hat mc0 mf0 mc1 mf1 mc2 mf2 mc3 mf3 mc4 mf4 mc5 mf5 mc6 mf6 mc7 mf7 mc8 mf8 mc9 mf9 mc10 mf10
        have mc0 : w6.cell? ⟨m, 0, none⟩ = some (.int .i64 kI) := rm6.at_.c0
        have mf0 : w6.frozen? ⟨m, 0, none⟩ = false := rm6.fz 0
        have mc1 : w6.cell? ⟨m, 1, none⟩ = some (.int .i64 y) := rm6.at_.c1
        have mf1 : w6.frozen? ⟨m, 1, none⟩ = false := rm6.fz 1
        have mc2 : w6.cell? ⟨m, 2, none⟩ = some (.int .u16 0) := rm6.at_.c2
        have mf2 : w6.frozen? ⟨m, 2, none⟩ = false := rm6.fz 2
        have mc3 : w6.cell? ⟨m, 3, none⟩ = some (.int .u8 z3) := rm6.at_.c3
        have mf3 : w6.frozen? ⟨m, 3, none⟩ = false := rm6.fz 3
        have mc4 : w6.cell? ⟨m, 4, none⟩ = some (.int .u8 z4) := rm6.at_.c4
        have mf4 : w6.frozen? ⟨m, 4, none⟩ = false := rm6.fz 4
        have mc5 : w6.cell? ⟨m, 5, none⟩ = some (.int .u8 z5) := rm6.at_.c5
        have mf5 : w6.frozen? ⟨m, 5, none⟩ = false := rm6.fz 5
        have mc6 : w6.cell? ⟨m, 6, none⟩ = some (.int .u8 z6) := rm6.at_.c6
        have mf6 : w6.frozen? ⟨m, 6, none⟩ = false := rm6.fz 6
        have mc7 : w6.cell? ⟨m, 7, none⟩ = some (.bool false) := rm6.at_.c7
        have mf7 : w6.frozen? ⟨m, 7, none⟩ = false := rm6.fz 7
        have mc8 : w6.cell? ⟨m, 8, none⟩ = some (.int .i64 0) := rm6.at_.c8
        have mf8 : w6.frozen? ⟨m, 8, none⟩ = false := rm6.fz 8
        have mc9 : w6.cell? ⟨m, 9, none⟩ = some (.bool false) := rm6.at_.c9
        have mf9 : w6.frozen? ⟨m, 9, none⟩ = false := rm6.fz 9
        have mc10 : w6.cell? ⟨m, 10, none⟩ = some (.int .i64 0) := rm6.at_.c10
        have mf10 : w6.frozen? ⟨m, 10, none⟩ = false := rm6.fz 10
        have nc0 : w6.cell? ⟨w.heap.size, 0, none⟩ = some (.int .i64 0) := rb6.at_.c0
        have nf0 : w6.frozen? ⟨w.heap.size, 0, none⟩ = false := rb6.fz 0
        have nc1 : w6.cell? ⟨w.heap.size, 1, none⟩ = some (.int .i64 0) := rb6.at_.c1
        have nf1 : w6.frozen? ⟨w.heap.size, 1, none⟩ = false := rb6.fz 1
        have nc2 : w6.cell? ⟨w.heap.size, 2, none⟩ = some (.int .u16 0) := rb6.at_.c2
        have nf2 : w6.frozen? ⟨w.heap.size, 2, none⟩ = false := rb6.fz 2
        have nc3 : w6.cell? ⟨w.heap.size, 3, none⟩ = some (.int .u8 0) := rb6.at_.c3
        have nf3 : w6.frozen? ⟨w.heap.size, 3, none⟩ = false := rb6.fz 3
        have nc4 : w6.cell? ⟨w.heap.size, 4, none⟩ = some (.int .u8 0) := rb6.at_.c4
        have nf4 : w6.frozen? ⟨w.heap.size, 4, none⟩ = false := rb6.fz 4
        have nc5 : w6.cell? ⟨w.heap.size, 5, none⟩ = some (.int .u8 0) := rb6.at_.c5
        have nf5 : w6.frozen? ⟨w.heap.size, 5, none⟩ = false := rb6.fz 5
        have nc6 : w6.cell? ⟨w.heap.size, 6, none⟩ = some (.int .u8 0) := rb6.at_.c6
        have nf6 : w6.frozen? ⟨w.heap.size, 6, none⟩ = false := rb6.fz 6
        have nc7 : w6.cell? ⟨w.heap.size, 7, none⟩ = some (.bool false) := rb6.at_.c7
        have nf7 : w6.frozen? ⟨w.heap.size, 7, none⟩ = false := rb6.fz 7
        have nc8 : w6.cell? ⟨w.heap.size, 8, none⟩ = some (.int .i64 0) := rb6.at_.c8
        have nf8 : w6.frozen? ⟨w.heap.size, 8, none⟩ = false := rb6.fz 8
        have nc9 : w6.cell? ⟨w.heap.size, 9, none⟩ = some (.bool false) := rb6.at_.c9
        have nf9 : w6.frozen? ⟨w.heap.size, 9, none⟩ = false := rb6.fz 9
        have nc10 : w6.cell? ⟨w.heap.size, 10, none⟩ = some (.int .i64 0) := rb6.at_.c10
        have nf10 : w6.frozen? ⟨w.heap.size, 10, none⟩ = false := rb6.fz 10
        go_wp2
        refine bodyPost_ret (v := .agg #[.int .i64 kI, .int .i64 y, .int .u16 0, .int .u8 z3, .int .u8 z4, .int .u8 z5, .int .u8 z6, .bool t1, .int .i64 n1, .bool t2, .int .i64 n2]) ?_ rfl ⟨by rw [HE.out], ?_⟩
        · simp [results, Try.results62, go_sem, nc0, nc1, nc2, nc3, nc4, nc5, nc6, nc7, nc8, nc9, nc10]
        · repeat first | with_reducible exact kw6 | with_reducible refine below_sc ?_ (Nat.le_refl _) _ | with_reducible refine below_sc ?_ hmn3 _ | with_reducible refine Below.drew ?_
    · skip
      obtain ⟨q, hq⟩ : ∃ q, fromN ((ps.drop 3).take 2) = q := ⟨_, rfl⟩
      have hq2 : q < 65536 := by rw [← hq]; exact fromN_k (ps.drop 3) (hpz.drop 3) 2
      have HE : Hid (recV (read24 ps) = .agg #[.int .i64 kI, .int .i64 y, .int .u16 q, .int .u8 0, .int .u8 0, .int .u8 0, .int .u8 0, .bool false, .int .i64 0, .bool false, .int .i64 0]) := by
        apply Lib.hid
        have hk2 : ((h % 8 : Nat) : Int) + 1 = 2 ∨ ((h % 8 : Nat) : Int) + 1 = 8 := by have := HX.out; have := HK.out; simp at h8; omega
        unfold read24
        simp only [HH.out]
        rw [if_pos hk2, HX.out, HY.out, HK.out, hq]
        rfl
      have hlt : ((ps.drop 3).take 2).length = 2 := by rw [List.length_take, List.length_drop, HP.out]; rfl
      have F3 := from_yes (some ⟨w.heap.size + 1, 3, none⟩) 21 ((ps.drop 3).take 2) ((hpz.drop 3).take 2) (by omega) w4 (gR4.1.take 2)
      rw [hq, hlt] at F3
      clear hq hlt
      go_wp2_with fail
      (with_reducible refine F3.mono ?_)
      rintro e w5 ⟨rfl, k5⟩
      have rm5 := rm4.below k5 hms
      have rb5 := rb4.below k5 hns
      have kw5 := below_more kw4 k5 (Nat.le_refl _)
      clear F3 mk
      have mc0 : w5.cell? ⟨m, 0, none⟩ = some (.int .i64 kI) := rm5.at_.c0
      have mf0 : w5.frozen? ⟨m, 0, none⟩ = false := rm5.fz 0
      have mc1 : w5.cell? ⟨m, 1, none⟩ = some (.int .i64 y) := rm5.at_.c1
      have mf1 : w5.frozen? ⟨m, 1, none⟩ = false := rm5.fz 1
      have mc2 : w5.cell? ⟨m, 2, none⟩ = some (.int .u16 0) := rm5.at_.c2
      have mf2 : w5.frozen? ⟨m, 2, none⟩ = false := rm5.fz 2
      have mc3 : w5.cell? ⟨m, 3, none⟩ = some (.int .u8 0) := rm5.at_.c3
      have mf3 : w5.frozen? ⟨m, 3, none⟩ = false := rm5.fz 3
      have mc4 : w5.cell? ⟨m, 4, none⟩ = some (.int .u8 0) := rm5.at_.c4
      have mf4 : w5.frozen? ⟨m, 4, none⟩ = false := rm5.fz 4
      have mc5 : w5.cell? ⟨m, 5, none⟩ = some (.int .u8 0) := rm5.at_.c5
      have mf5 : w5.frozen? ⟨m, 5, none⟩ = false := rm5.fz 5
      have mc6 : w5.cell? ⟨m, 6, none⟩ = some (.int .u8 0) := rm5.at_.c6
      have mf6 : w5.frozen? ⟨m, 6, none⟩ = false := rm5.fz 6
      have mc7 : w5.cell? ⟨m, 7, none⟩ = some (.bool false) := rm5.at_.c7
      have mf7 : w5.frozen? ⟨m, 7, none⟩ = false := rm5.fz 7
      have mc8 : w5.cell? ⟨m, 8, none⟩ = some (.int .i64 0) := rm5.at_.c8
      have mf8 : w5.frozen? ⟨m, 8, none⟩ = false := rm5.fz 8
      have mc9 : w5.cell? ⟨m, 9, none⟩ = some (.bool false) := rm5.at_.c9
      have mf9 : w5.frozen? ⟨m, 9, none⟩ = false := rm5.fz 9
      have mc10 : w5.cell? ⟨m, 10, none⟩ = some (.int .i64 0) := rm5.at_.c10
      have mf10 : w5.frozen? ⟨m, 10, none⟩ = false := rm5.fz 10
      have nc0 : w5.cell? ⟨w.heap.size, 0, none⟩ = some (.int .i64 0) := rb5.at_.c0
      have nf0 : w5.frozen? ⟨w.heap.size, 0, none⟩ = false := rb5.fz 0
      have nc1 : w5.cell? ⟨w.heap.size, 1, none⟩ = some (.int .i64 0) := rb5.at_.c1
      have nf1 : w5.frozen? ⟨w.heap.size, 1, none⟩ = false := rb5.fz 1
      have nc2 : w5.cell? ⟨w.heap.size, 2, none⟩ = some (.int .u16 0) := rb5.at_.c2
      have nf2 : w5.frozen? ⟨w.heap.size, 2, none⟩ = false := rb5.fz 2
      have nc3 : w5.cell? ⟨w.heap.size, 3, none⟩ = some (.int .u8 0) := rb5.at_.c3
      have nf3 : w5.frozen? ⟨w.heap.size, 3, none⟩ = false := rb5.fz 3
      have nc4 : w5.cell? ⟨w.heap.size, 4, none⟩ = some (.int .u8 0) := rb5.at_.c4
      have nf4 : w5.frozen? ⟨w.heap.size, 4, none⟩ = false := rb5.fz 4
      have nc5 : w5.cell? ⟨w.heap.size, 5, none⟩ = some (.int .u8 0) := rb5.at_.c5
      have nf5 : w5.frozen? ⟨w.heap.size, 5, none⟩ = false := rb5.fz 5
      have nc6 : w5.cell? ⟨w.heap.size, 6, none⟩ = some (.int .u8 0) := rb5.at_.c6
      have nf6 : w5.frozen? ⟨w.heap.size, 6, none⟩ = false := rb5.fz 6
      have nc7 : w5.cell? ⟨w.heap.size, 7, none⟩ = some (.bool false) := rb5.at_.c7
      have nf7 : w5.frozen? ⟨w.heap.size, 7, none⟩ = false := rb5.fz 7
      have nc8 : w5.cell? ⟨w.heap.size, 8, none⟩ = some (.int .i64 0) := rb5.at_.c8
      have nf8 : w5.frozen? ⟨w.heap.size, 8, none⟩ = false := rb5.fz 8
      have nc9 : w5.cell? ⟨w.heap.size, 9, none⟩ = some (.bool false) := rb5.at_.c9
      have nf9 : w5.frozen? ⟨w.heap.size, 9, none⟩ = false := rb5.fz 9
      have nc10 : w5.cell? ⟨w.heap.size, 10, none⟩ = some (.int .i64 0) := rb5.at_.c10
      have nf10 : w5.frozen? ⟨w.heap.size, 10, none⟩ = false := rb5.fz 10
      go_wp2
      refine bodyPost_ret (v := .agg #[.int .i64 kI, .int .i64 y, .int .u16 q, .int .u8 0, .int .u8 0, .int .u8 0, .int .u8 0, .bool false, .int .i64 0, .bool false, .int .i64 0]) ?_ rfl ⟨by rw [HE.out], ?_⟩
      · simp [results, Try.results62, go_sem, nc0, nc1, nc2, nc3, nc4, nc5, nc6, nc7, nc8, nc9, nc10]
      · repeat first | with_reducible exact kw5 | with_reducible refine below_sc ?_ (Nat.le_refl _) _ | with_reducible refine below_sc ?_ hmn3 _ | with_reducible refine Below.drew ?_
  · skip
    obtain ⟨q, hq⟩ : ∃ q, fromN ((ps.drop 3).take 2) = q := ⟨_, rfl⟩
    have hq2 : q < 65536 := by rw [← hq]; exact fromN_k (ps.drop 3) (hpz.drop 3) 2
    have HE : Hid (recV (read24 ps) = .agg #[.int .i64 kI, .int .i64 y, .int .u16 q, .int .u8 0, .int .u8 0, .int .u8 0, .int .u8 0, .bool false, .int .i64 0, .bool false, .int .i64 0]) := by
      apply Lib.hid
      have hk2 : ((h % 8 : Nat) : Int) + 1 = 2 ∨ ((h % 8 : Nat) : Int) + 1 = 8 := by have := HX.out; have := HK.out; simp at h2; omega
      unfold read24
      simp only [HH.out]
      rw [if_pos hk2, HX.out, HY.out, HK.out, hq]
      rfl
    have hlt : ((ps.drop 3).take 2).length = 2 := by rw [List.length_take, List.length_drop, HP.out]; rfl
    have F3 := from_yes (some ⟨w.heap.size + 1, 3, none⟩) 21 ((ps.drop 3).take 2) ((hpz.drop 3).take 2) (by omega) w4 (gR4.1.take 2)
    rw [hq, hlt] at F3
    clear hq hlt
    go_wp2_with fail
    (with_reducible refine F3.mono ?_)
    rintro e w5 ⟨rfl, k5⟩
    have rm5 := rm4.below k5 hms
    have rb5 := rb4.below k5 hns
    have kw5 := below_more kw4 k5 (Nat.le_refl _)
    clear F3 mk
    have mc0 : w5.cell? ⟨m, 0, none⟩ = some (.int .i64 kI) := rm5.at_.c0
    have mf0 : w5.frozen? ⟨m, 0, none⟩ = false := rm5.fz 0
    have mc1 : w5.cell? ⟨m, 1, none⟩ = some (.int .i64 y) := rm5.at_.c1
    have mf1 : w5.frozen? ⟨m, 1, none⟩ = false := rm5.fz 1
    have mc2 : w5.cell? ⟨m, 2, none⟩ = some (.int .u16 0) := rm5.at_.c2
    have mf2 : w5.frozen? ⟨m, 2, none⟩ = false := rm5.fz 2
    have mc3 : w5.cell? ⟨m, 3, none⟩ = some (.int .u8 0) := rm5.at_.c3
    have mf3 : w5.frozen? ⟨m, 3, none⟩ = false := rm5.fz 3
    have mc4 : w5.cell? ⟨m, 4, none⟩ = some (.int .u8 0) := rm5.at_.c4
    have mf4 : w5.frozen? ⟨m, 4, none⟩ = false := rm5.fz 4
    have mc5 : w5.cell? ⟨m, 5, none⟩ = some (.int .u8 0) := rm5.at_.c5
    have mf5 : w5.frozen? ⟨m, 5, none⟩ = false := rm5.fz 5
    have mc6 : w5.cell? ⟨m, 6, none⟩ = some (.int .u8 0) := rm5.at_.c6
    have mf6 : w5.frozen? ⟨m, 6, none⟩ = false := rm5.fz 6
    have mc7 : w5.cell? ⟨m, 7, none⟩ = some (.bool false) := rm5.at_.c7
    have mf7 : w5.frozen? ⟨m, 7, none⟩ = false := rm5.fz 7
    have mc8 : w5.cell? ⟨m, 8, none⟩ = some (.int .i64 0) := rm5.at_.c8
    have mf8 : w5.frozen? ⟨m, 8, none⟩ = false := rm5.fz 8
    have mc9 : w5.cell? ⟨m, 9, none⟩ = some (.bool false) := rm5.at_.c9
    have mf9 : w5.frozen? ⟨m, 9, none⟩ = false := rm5.fz 9
    have mc10 : w5.cell? ⟨m, 10, none⟩ = some (.int .i64 0) := rm5.at_.c10
    have mf10 : w5.frozen? ⟨m, 10, none⟩ = false := rm5.fz 10
    have nc0 : w5.cell? ⟨w.heap.size, 0, none⟩ = some (.int .i64 0) := rb5.at_.c0
    have nf0 : w5.frozen? ⟨w.heap.size, 0, none⟩ = false := rb5.fz 0
    have nc1 : w5.cell? ⟨w.heap.size, 1, none⟩ = some (.int .i64 0) := rb5.at_.c1
    have nf1 : w5.frozen? ⟨w.heap.size, 1, none⟩ = false := rb5.fz 1
    have nc2 : w5.cell? ⟨w.heap.size, 2, none⟩ = some (.int .u16 0) := rb5.at_.c2
    have nf2 : w5.frozen? ⟨w.heap.size, 2, none⟩ = false := rb5.fz 2
    have nc3 : w5.cell? ⟨w.heap.size, 3, none⟩ = some (.int .u8 0) := rb5.at_.c3
    have nf3 : w5.frozen? ⟨w.heap.size, 3, none⟩ = false := rb5.fz 3
    have nc4 : w5.cell? ⟨w.heap.size, 4, none⟩ = some (.int .u8 0) := rb5.at_.c4
    have nf4 : w5.frozen? ⟨w.heap.size, 4, none⟩ = false := rb5.fz 4
    have nc5 : w5.cell? ⟨w.heap.size, 5, none⟩ = some (.int .u8 0) := rb5.at_.c5
    have nf5 : w5.frozen? ⟨w.heap.size, 5, none⟩ = false := rb5.fz 5
    have nc6 : w5.cell? ⟨w.heap.size, 6, none⟩ = some (.int .u8 0) := rb5.at_.c6
    have nf6 : w5.frozen? ⟨w.heap.size, 6, none⟩ = false := rb5.fz 6
    have nc7 : w5.cell? ⟨w.heap.size, 7, none⟩ = some (.bool false) := rb5.at_.c7
    have nf7 : w5.frozen? ⟨w.heap.size, 7, none⟩ = false := rb5.fz 7
    have nc8 : w5.cell? ⟨w.heap.size, 8, none⟩ = some (.int .i64 0) := rb5.at_.c8
    have nf8 : w5.frozen? ⟨w.heap.size, 8, none⟩ = false := rb5.fz 8
    have nc9 : w5.cell? ⟨w.heap.size, 9, none⟩ = some (.bool false) := rb5.at_.c9
    have nf9 : w5.frozen? ⟨w.heap.size, 9, none⟩ = false := rb5.fz 9
    have nc10 : w5.cell? ⟨w.heap.size, 10, none⟩ = some (.int .i64 0) := rb5.at_.c10
    have nf10 : w5.frozen? ⟨w.heap.size, 10, none⟩ = false := rb5.fz 10
    go_wp2
    refine bodyPost_ret (v := .agg #[.int .i64 kI, .int .i64 y, .int .u16 q, .int .u8 0, .int .u8 0, .int .u8 0, .int .u8 0, .bool false, .int .i64 0, .bool false, .int .i64 0]) ?_ rfl ⟨by rw [HE.out], ?_⟩
    · simp [results, Try.results62, go_sem, nc0, nc1, nc2, nc3, nc4, nc5, nc6, nc7, nc8, nc9, nc10]
    · repeat first | with_reducible exact kw5 | with_reducible refine below_sc ?_ (Nat.le_refl _) _ | with_reducible refine below_sc ?_ hmn3 _ | with_reducible refine Below.drew ?_
end Go.Proofs.Ytdmkkfpbgpijjaa
namespace Go.Proofs.Ytdmkkfpbgpijjaa
open Go.RowKit Go.Deep
set_option linter.unusedVariables false

def DecSays (r : RecD) (n : Nat) (w : World) (e : Ending) (w' : World) : Prop := e = .returned (.tuple #[recV r, .int .i64 n]) ∧ Below w.heap.size w w'
set_option maxRecDepth 100000 in
set_option maxHeartbeats 2000000 in
theorem dec_wrong (A : Option Addr) (l c : Nat) (zs : List Int) (hl : zs.length = l) (hz : isBytes zs) (hr : rightB (readL zs) = false) (w : World) (g : Good A c zs w) :
    Calls Try.prog 52 #[.slice A l c] w (DecSays zeroR 0 w) := by
  have ok := readL_ok zs hz
  have F1 : ∀ W, Good A c zs W → Calls Try.prog 62 #[.slice A l c] W fun e w' => e = .returned (.agg #[.int .i64 (readL zs).kind, .int .i64 (readL zs).tx, .int .u16 (readL zs).mask, .int .u8 (readL zs).k0, .int .u8 (readL zs).k1, .int .u8 (readL zs).k2, .int .u8 (readL zs).k3, .bool (readL zs).oT, .int .i64 (readL zs).oN, .bool (readL zs).nT, .int .i64 (readL zs).nN]) ∧ Below W.heap.size W w' := fun W h => read_any A l c zs hl hz W h
  have HW := Lib.hid (recBox_new w zeroR)
  have gW := g.alloc (.cells #[.int .i64 0, .int .i64 0, .int .u16 0, .int .u8 0, .int .u8 0, .int .u8 0, .int .u8 0, .bool false, .int .i64 0, .bool false, .int .i64 0] 48)
  have F2 : ∀ W, Calls Try.prog 47 #[.agg #[.int .i64 (readL zs).kind, .int .i64 (readL zs).tx, .int .u16 (readL zs).mask, .int .u8 (readL zs).k0, .int .u8 (readL zs).k1, .int .u8 (readL zs).k2, .int .u8 (readL zs).k3, .bool (readL zs).oT, .int .i64 (readL zs).oN, .bool (readL zs).nT, .int .i64 (readL zs).nN]] W fun e w' => e = .returned (.tuple #[.slice none 0 0, .bool false]) ∧ Below W.heap.size W w' := fun W => enc_no _ hr W
  generalize readL zs = r at *
  have HM := fun W => Lib.hid (recBox_new W r)
  go_enter Try.func52, Try.ntmps52
  go_wp2_with fail
  (with_reducible refine (F1 _ gW).mono ?_)
  rintro e w1 ⟨rfl, k1⟩
  have rb1 : RecBox w1 w.heap.size zeroR := HW.out.below k1 (by simp)
  have kw1 : Below w.heap.size w w1 := ((Below.refl _ w).alloc (Nat.le_refl _) _).trans (k1.mono (by simp))
  have hs1 : w.heap.size < w1.heap.size := rb1.at_.lt
  have G1 := g.below kw1
  clear HW gW k1 F1
  have rb2 := rb1.below (Below.alloc (Below.refl w1.heap.size w1) (Nat.le_refl _) (.cells #[.int .i64 r.kind, .int .i64 r.tx, .int .u16 r.mask, .int .u8 r.k0, .int .u8 r.k1, .int .u8 r.k2, .int .u8 r.k3, .bool r.oT, .int .i64 r.oN, .bool r.nT, .int .i64 r.nN] 48)) hs1
  have rm2 : RecBox (w1.alloc (.cells #[.int .i64 r.kind, .int .i64 r.tx, .int .u16 r.mask, .int .u8 r.k0, .int .u8 r.k1, .int .u8 r.k2, .int .u8 r.k3, .bool r.oT, .int .i64 r.oN, .bool r.nT, .int .i64 r.nN] 48)) w1.heap.size r := (HM w1).out
  have kw2 : Below w.heap.size w (w1.alloc (.cells #[.int .i64 r.kind, .int .i64 r.tx, .int .u16 r.mask, .int .u8 r.k0, .int .u8 r.k1, .int .u8 r.k2, .int .u8 r.k3, .bool r.oT, .int .i64 r.oN, .bool r.nT, .int .i64 r.nN] 48)) := kw1.alloc kw1.size _
  have G2 := G1.alloc (.cells #[.int .i64 r.kind, .int .i64 r.tx, .int .u16 r.mask, .int .u8 r.k0, .int .u8 r.k1, .int .u8 r.k2, .int .u8 r.k3, .bool r.oT, .int .i64 r.oN, .bool r.nT, .int .i64 r.nN] 48)
  have hs2 : w.heap.size < (w1.alloc (.cells #[.int .i64 r.kind, .int .i64 r.tx, .int .u16 r.mask, .int .u8 r.k0, .int .u8 r.k1, .int .u8 r.k2, .int .u8 r.k3, .bool r.oT, .int .i64 r.oN, .bool r.nT, .int .i64 r.nN] 48)).heap.size := by simp; omega
  clear HM rb1 kw1 G1
  go_wp2_with fail
  (with_reducible refine (F2 _).mono ?_)
  rintro e w3 ⟨rfl, k3⟩
  have rb3 := rb2.below k3 hs2
  have kw3 := below_more kw2 k3 (Nat.le_refl _)
  clear F2 rb2 rm2 kw2 k3 G2 hs2
  have nc0 : w3.cell? ⟨w.heap.size, 0, none⟩ = some (.int .i64 0) := rb3.at_.c0
  have nf0 : w3.frozen? ⟨w.heap.size, 0, none⟩ = false := rb3.fz 0
  have nc1 : w3.cell? ⟨w.heap.size, 1, none⟩ = some (.int .i64 0) := rb3.at_.c1
  have nf1 : w3.frozen? ⟨w.heap.size, 1, none⟩ = false := rb3.fz 1
  have nc2 : w3.cell? ⟨w.heap.size, 2, none⟩ = some (.int .u16 0) := rb3.at_.c2
  have nf2 : w3.frozen? ⟨w.heap.size, 2, none⟩ = false := rb3.fz 2
  have nc3 : w3.cell? ⟨w.heap.size, 3, none⟩ = some (.int .u8 0) := rb3.at_.c3
  have nf3 : w3.frozen? ⟨w.heap.size, 3, none⟩ = false := rb3.fz 3
  have nc4 : w3.cell? ⟨w.heap.size, 4, none⟩ = some (.int .u8 0) := rb3.at_.c4
  have nf4 : w3.frozen? ⟨w.heap.size, 4, none⟩ = false := rb3.fz 4
  have nc5 : w3.cell? ⟨w.heap.size, 5, none⟩ = some (.int .u8 0) := rb3.at_.c5
  have nf5 : w3.frozen? ⟨w.heap.size, 5, none⟩ = false := rb3.fz 5
  have nc6 : w3.cell? ⟨w.heap.size, 6, none⟩ = some (.int .u8 0) := rb3.at_.c6
  have nf6 : w3.frozen? ⟨w.heap.size, 6, none⟩ = false := rb3.fz 6
  have nc7 : w3.cell? ⟨w.heap.size, 7, none⟩ = some (.bool false) := rb3.at_.c7
  have nf7 : w3.frozen? ⟨w.heap.size, 7, none⟩ = false := rb3.fz 7
  have nc8 : w3.cell? ⟨w.heap.size, 8, none⟩ = some (.int .i64 0) := rb3.at_.c8
  have nf8 : w3.frozen? ⟨w.heap.size, 8, none⟩ = false := rb3.fz 8
  have nc9 : w3.cell? ⟨w.heap.size, 9, none⟩ = some (.bool false) := rb3.at_.c9
  have nf9 : w3.frozen? ⟨w.heap.size, 9, none⟩ = false := rb3.fz 9
  have nc10 : w3.cell? ⟨w.heap.size, 10, none⟩ = some (.int .i64 0) := rb3.at_.c10
  have nf10 : w3.frozen? ⟨w.heap.size, 10, none⟩ = false := rb3.fz 10
  go_wp2
  refine bodyPost_ret (v := .tuple #[.agg #[.int .i64 0, .int .i64 0, .int .u16 0, .int .u8 0, .int .u8 0, .int .u8 0, .int .u8 0, .bool false, .int .i64 0, .bool false, .int .i64 0], .int .i64 0]) ?_ rfl ⟨rfl, ?_⟩
  · simp [results, Try.results52, go_sem, nc0, nc1, nc2, nc3, nc4, nc5, nc6, nc7, nc8, nc9, nc10]
  · repeat first | with_reducible exact kw3 | with_reducible refine below_sc ?_ (Nat.le_refl _) _ | with_reducible refine Below.drew ?_
set_option maxRecDepth 100000 in
set_option maxHeartbeats 2000000 in
theorem dec_other (A : Option Addr) (l c n : Nat) (zs : List Int) (hl : zs.length = l) (hz : isBytes zs) (hr : rightB (readL zs) = true) (hn : (encL (readL zs)).length = n) (hp : hasP zs (encL (readL zs)) = false) (w : World) (g : Good A c zs w) :
    Calls Try.prog 52 #[.slice A l c] w (DecSays zeroR 0 w) := by
  have ok := readL_ok zs hz
  have F1 : ∀ W, Good A c zs W → Calls Try.prog 62 #[.slice A l c] W fun e w' => e = .returned (.agg #[.int .i64 (readL zs).kind, .int .i64 (readL zs).tx, .int .u16 (readL zs).mask, .int .u8 (readL zs).k0, .int .u8 (readL zs).k1, .int .u8 (readL zs).k2, .int .u8 (readL zs).k3, .bool (readL zs).oT, .int .i64 (readL zs).oN, .bool (readL zs).nT, .int .i64 (readL zs).nN]) ∧ Below W.heap.size W w' := fun W h => read_any A l c zs hl hz W h
  have HW := Lib.hid (recBox_new w zeroR)
  have gW := g.alloc (.cells #[.int .i64 0, .int .i64 0, .int .u16 0, .int .u8 0, .int .u8 0, .int .u8 0, .int .u8 0, .bool false, .int .i64 0, .bool false, .int .i64 0] 48)
  have F2 : ∀ W, Calls Try.prog 47 #[.agg #[.int .i64 (readL zs).kind, .int .i64 (readL zs).tx, .int .u16 (readL zs).mask, .int .u8 (readL zs).k0, .int .u8 (readL zs).k1, .int .u8 (readL zs).k2, .int .u8 (readL zs).k3, .bool (readL zs).oT, .int .i64 (readL zs).oN, .bool (readL zs).nT, .int .i64 (readL zs).nN]] W fun e w' => ∃ A2 c2, e = .returned (.tuple #[.slice A2 n c2, .bool true]) ∧ Good A2 c2 (encL (readL zs)) w' ∧ Below W.heap.size W w' := fun W => by
    refine (enc_yes (readL zs) hr ok W).mono ?_
    rintro e w' ⟨v, rfl, o, k⟩
    obtain ⟨A2, c2, rfl, g2⟩ := o.good
    exact ⟨A2, c2, by rw [hn], g2, k⟩
  have hb3 := (encL_bd (readL zs)).1
  have F3 := fun A2 c2 W g' g => hasPrefix_any A A2 zs (encL (readL zs)) l n c c2 false hl hn hz (encL_bytes _ ok) (by omega) hp W g g'
  generalize encL (readL zs) = es at *
  generalize readL zs = r at *
  have HM := fun W => Lib.hid (recBox_new W r)
  go_enter Try.func52, Try.ntmps52
  go_wp2_with fail
  (with_reducible refine (F1 _ gW).mono ?_)
  rintro e w1 ⟨rfl, k1⟩
  have rb1 : RecBox w1 w.heap.size zeroR := HW.out.below k1 (by simp)
  have kw1 : Below w.heap.size w w1 := ((Below.refl _ w).alloc (Nat.le_refl _) _).trans (k1.mono (by simp))
  have hs1 : w.heap.size < w1.heap.size := rb1.at_.lt
  have G1 := g.below kw1
  clear HW gW k1 F1
  have rb2 := rb1.below (Below.alloc (Below.refl w1.heap.size w1) (Nat.le_refl _) (.cells #[.int .i64 r.kind, .int .i64 r.tx, .int .u16 r.mask, .int .u8 r.k0, .int .u8 r.k1, .int .u8 r.k2, .int .u8 r.k3, .bool r.oT, .int .i64 r.oN, .bool r.nT, .int .i64 r.nN] 48)) hs1
  have rm2 : RecBox (w1.alloc (.cells #[.int .i64 r.kind, .int .i64 r.tx, .int .u16 r.mask, .int .u8 r.k0, .int .u8 r.k1, .int .u8 r.k2, .int .u8 r.k3, .bool r.oT, .int .i64 r.oN, .bool r.nT, .int .i64 r.nN] 48)) w1.heap.size r := (HM w1).out
  have kw2 : Below w.heap.size w (w1.alloc (.cells #[.int .i64 r.kind, .int .i64 r.tx, .int .u16 r.mask, .int .u8 r.k0, .int .u8 r.k1, .int .u8 r.k2, .int .u8 r.k3, .bool r.oT, .int .i64 r.oN, .bool r.nT, .int .i64 r.nN] 48)) := kw1.alloc kw1.size _
  have G2 := G1.alloc (.cells #[.int .i64 r.kind, .int .i64 r.tx, .int .u16 r.mask, .int .u8 r.k0, .int .u8 r.k1, .int .u8 r.k2, .int .u8 r.k3, .bool r.oT, .int .i64 r.oN, .bool r.nT, .int .i64 r.nN] 48)
  have hs2 : w.heap.size < (w1.alloc (.cells #[.int .i64 r.kind, .int .i64 r.tx, .int .u16 r.mask, .int .u8 r.k0, .int .u8 r.k1, .int .u8 r.k2, .int .u8 r.k3, .bool r.oT, .int .i64 r.oN, .bool r.nT, .int .i64 r.nN] 48)).heap.size := by simp; omega
  clear HM rb1 kw1 G1
  go_wp2_with fail
  (with_reducible refine (F2 _).mono ?_)
  rintro e w3 ⟨A3, c3, rfl, g3, k3⟩
  have rb3 := rb2.below k3 hs2
  have rm3 := rm2.below k3 (by simp)
  have kw3 := below_more kw2 k3 (Nat.le_refl _)
  have G3 := G2.below k3
  clear F2 rb2 rm2 kw2 k3 G2 hs2
  go_wp2_with fail
  (with_reducible refine (F3 _ _ _ g3 G3).mono ?_)
  rintro e w4 ⟨rfl, rfl⟩
  clear F3 g3 G3
  have nc0 : w3.cell? ⟨w.heap.size, 0, none⟩ = some (.int .i64 0) := rb3.at_.c0
  have nf0 : w3.frozen? ⟨w.heap.size, 0, none⟩ = false := rb3.fz 0
  have nc1 : w3.cell? ⟨w.heap.size, 1, none⟩ = some (.int .i64 0) := rb3.at_.c1
  have nf1 : w3.frozen? ⟨w.heap.size, 1, none⟩ = false := rb3.fz 1
  have nc2 : w3.cell? ⟨w.heap.size, 2, none⟩ = some (.int .u16 0) := rb3.at_.c2
  have nf2 : w3.frozen? ⟨w.heap.size, 2, none⟩ = false := rb3.fz 2
  have nc3 : w3.cell? ⟨w.heap.size, 3, none⟩ = some (.int .u8 0) := rb3.at_.c3
  have nf3 : w3.frozen? ⟨w.heap.size, 3, none⟩ = false := rb3.fz 3
  have nc4 : w3.cell? ⟨w.heap.size, 4, none⟩ = some (.int .u8 0) := rb3.at_.c4
  have nf4 : w3.frozen? ⟨w.heap.size, 4, none⟩ = false := rb3.fz 4
  have nc5 : w3.cell? ⟨w.heap.size, 5, none⟩ = some (.int .u8 0) := rb3.at_.c5
  have nf5 : w3.frozen? ⟨w.heap.size, 5, none⟩ = false := rb3.fz 5
  have nc6 : w3.cell? ⟨w.heap.size, 6, none⟩ = some (.int .u8 0) := rb3.at_.c6
  have nf6 : w3.frozen? ⟨w.heap.size, 6, none⟩ = false := rb3.fz 6
  have nc7 : w3.cell? ⟨w.heap.size, 7, none⟩ = some (.bool false) := rb3.at_.c7
  have nf7 : w3.frozen? ⟨w.heap.size, 7, none⟩ = false := rb3.fz 7
  have nc8 : w3.cell? ⟨w.heap.size, 8, none⟩ = some (.int .i64 0) := rb3.at_.c8
  have nf8 : w3.frozen? ⟨w.heap.size, 8, none⟩ = false := rb3.fz 8
  have nc9 : w3.cell? ⟨w.heap.size, 9, none⟩ = some (.bool false) := rb3.at_.c9
  have nf9 : w3.frozen? ⟨w.heap.size, 9, none⟩ = false := rb3.fz 9
  have nc10 : w3.cell? ⟨w.heap.size, 10, none⟩ = some (.int .i64 0) := rb3.at_.c10
  have nf10 : w3.frozen? ⟨w.heap.size, 10, none⟩ = false := rb3.fz 10
  go_wp2
  refine bodyPost_ret (v := .tuple #[.agg #[.int .i64 0, .int .i64 0, .int .u16 0, .int .u8 0, .int .u8 0, .int .u8 0, .int .u8 0, .bool false, .int .i64 0, .bool false, .int .i64 0], .int .i64 0]) ?_ rfl ⟨rfl, ?_⟩
  · simp [results, Try.results52, go_sem, nc0, nc1, nc2, nc3, nc4, nc5, nc6, nc7, nc8, nc9, nc10]
  · repeat first | with_reducible exact kw3 | with_reducible refine below_sc ?_ (Nat.le_refl _) _ | with_reducible refine Below.drew ?_
set_option maxRecDepth 100000 in
set_option maxHeartbeats 2000000 in
theorem dec_yes (A : Option Addr) (l c n : Nat) (zs : List Int) (hl : zs.length = l) (hz : isBytes zs) (hr : rightB (readL zs) = true) (hn : (encL (readL zs)).length = n) (hp : hasP zs (encL (readL zs)) = true) (w : World) (g : Good A c zs w) :
    Calls Try.prog 52 #[.slice A l c] w (DecSays (readL zs) n w) := by
  have ok := readL_ok zs hz
  have F1 : ∀ W, Good A c zs W → Calls Try.prog 62 #[.slice A l c] W fun e w' => e = .returned (.agg #[.int .i64 (readL zs).kind, .int .i64 (readL zs).tx, .int .u16 (readL zs).mask, .int .u8 (readL zs).k0, .int .u8 (readL zs).k1, .int .u8 (readL zs).k2, .int .u8 (readL zs).k3, .bool (readL zs).oT, .int .i64 (readL zs).oN, .bool (readL zs).nT, .int .i64 (readL zs).nN]) ∧ Below W.heap.size W w' := fun W h => read_any A l c zs hl hz W h
  have HW := Lib.hid (recBox_new w zeroR)
  have gW := g.alloc (.cells #[.int .i64 0, .int .i64 0, .int .u16 0, .int .u8 0, .int .u8 0, .int .u8 0, .int .u8 0, .bool false, .int .i64 0, .bool false, .int .i64 0] 48)
  have F2 : ∀ W, Calls Try.prog 47 #[.agg #[.int .i64 (readL zs).kind, .int .i64 (readL zs).tx, .int .u16 (readL zs).mask, .int .u8 (readL zs).k0, .int .u8 (readL zs).k1, .int .u8 (readL zs).k2, .int .u8 (readL zs).k3, .bool (readL zs).oT, .int .i64 (readL zs).oN, .bool (readL zs).nT, .int .i64 (readL zs).nN]] W fun e w' => ∃ A2 c2, e = .returned (.tuple #[.slice A2 n c2, .bool true]) ∧ Good A2 c2 (encL (readL zs)) w' ∧ Below W.heap.size W w' := fun W => by
    refine (enc_yes (readL zs) hr ok W).mono ?_
    rintro e w' ⟨v, rfl, o, k⟩
    obtain ⟨A2, c2, rfl, g2⟩ := o.good
    exact ⟨A2, c2, by rw [hn], g2, k⟩
  have hb3 := (encL_bd (readL zs)).1
  have F3 := fun A2 c2 W g' g => hasPrefix_any A A2 zs (encL (readL zs)) l n c c2 true hl hn hz (encL_bytes _ ok) (by omega) hp W g g'
  generalize encL (readL zs) = es at *
  generalize readL zs = r at *
  have HM := fun W => Lib.hid (recBox_new W r)
  go_enter Try.func52, Try.ntmps52
  go_wp2_with fail
  (with_reducible refine (F1 _ gW).mono ?_)
  rintro e w1 ⟨rfl, k1⟩
  have rb1 : RecBox w1 w.heap.size zeroR := HW.out.below k1 (by simp)
  have kw1 : Below w.heap.size w w1 := ((Below.refl _ w).alloc (Nat.le_refl _) _).trans (k1.mono (by simp))
  have hs1 : w.heap.size < w1.heap.size := rb1.at_.lt
  have G1 := g.below kw1
  clear HW gW k1 F1
  have rb2 := rb1.below (Below.alloc (Below.refl w1.heap.size w1) (Nat.le_refl _) (.cells #[.int .i64 r.kind, .int .i64 r.tx, .int .u16 r.mask, .int .u8 r.k0, .int .u8 r.k1, .int .u8 r.k2, .int .u8 r.k3, .bool r.oT, .int .i64 r.oN, .bool r.nT, .int .i64 r.nN] 48)) hs1
  have rm2 : RecBox (w1.alloc (.cells #[.int .i64 r.kind, .int .i64 r.tx, .int .u16 r.mask, .int .u8 r.k0, .int .u8 r.k1, .int .u8 r.k2, .int .u8 r.k3, .bool r.oT, .int .i64 r.oN, .bool r.nT, .int .i64 r.nN] 48)) w1.heap.size r := (HM w1).out
  have kw2 : Below w.heap.size w (w1.alloc (.cells #[.int .i64 r.kind, .int .i64 r.tx, .int .u16 r.mask, .int .u8 r.k0, .int .u8 r.k1, .int .u8 r.k2, .int .u8 r.k3, .bool r.oT, .int .i64 r.oN, .bool r.nT, .int .i64 r.nN] 48)) := kw1.alloc kw1.size _
  have G2 := G1.alloc (.cells #[.int .i64 r.kind, .int .i64 r.tx, .int .u16 r.mask, .int .u8 r.k0, .int .u8 r.k1, .int .u8 r.k2, .int .u8 r.k3, .bool r.oT, .int .i64 r.oN, .bool r.nT, .int .i64 r.nN] 48)
  have hs2 : w.heap.size < (w1.alloc (.cells #[.int .i64 r.kind, .int .i64 r.tx, .int .u16 r.mask, .int .u8 r.k0, .int .u8 r.k1, .int .u8 r.k2, .int .u8 r.k3, .bool r.oT, .int .i64 r.oN, .bool r.nT, .int .i64 r.nN] 48)).heap.size := by simp; omega
  clear HM rb1 kw1 G1
  go_wp2_with fail
  (with_reducible refine (F2 _).mono ?_)
  rintro e w3 ⟨A3, c3, rfl, g3, k3⟩
  have rb3 := rb2.below k3 hs2
  have rm3 := rm2.below k3 (by simp)
  have kw3 := below_more kw2 k3 (Nat.le_refl _)
  have G3 := G2.below k3
  clear F2 rb2 rm2 kw2 k3 G2 hs2
  go_wp2_with fail
  (with_reducible refine (F3 _ _ _ g3 G3).mono ?_)
  rintro e w4 ⟨rfl, rfl⟩
  clear F3 g3 G3
  have nc0 : w3.cell? ⟨w.heap.size, 0, none⟩ = some (.int .i64 0) := rb3.at_.c0
  have nf0 : w3.frozen? ⟨w.heap.size, 0, none⟩ = false := rb3.fz 0
  have nc1 : w3.cell? ⟨w.heap.size, 1, none⟩ = some (.int .i64 0) := rb3.at_.c1
  have nf1 : w3.frozen? ⟨w.heap.size, 1, none⟩ = false := rb3.fz 1
  have nc2 : w3.cell? ⟨w.heap.size, 2, none⟩ = some (.int .u16 0) := rb3.at_.c2
  have nf2 : w3.frozen? ⟨w.heap.size, 2, none⟩ = false := rb3.fz 2
  have nc3 : w3.cell? ⟨w.heap.size, 3, none⟩ = some (.int .u8 0) := rb3.at_.c3
  have nf3 : w3.frozen? ⟨w.heap.size, 3, none⟩ = false := rb3.fz 3
  have nc4 : w3.cell? ⟨w.heap.size, 4, none⟩ = some (.int .u8 0) := rb3.at_.c4
  have nf4 : w3.frozen? ⟨w.heap.size, 4, none⟩ = false := rb3.fz 4
  have nc5 : w3.cell? ⟨w.heap.size, 5, none⟩ = some (.int .u8 0) := rb3.at_.c5
  have nf5 : w3.frozen? ⟨w.heap.size, 5, none⟩ = false := rb3.fz 5
  have nc6 : w3.cell? ⟨w.heap.size, 6, none⟩ = some (.int .u8 0) := rb3.at_.c6
  have nf6 : w3.frozen? ⟨w.heap.size, 6, none⟩ = false := rb3.fz 6
  have nc7 : w3.cell? ⟨w.heap.size, 7, none⟩ = some (.bool false) := rb3.at_.c7
  have nf7 : w3.frozen? ⟨w.heap.size, 7, none⟩ = false := rb3.fz 7
  have nc8 : w3.cell? ⟨w.heap.size, 8, none⟩ = some (.int .i64 0) := rb3.at_.c8
  have nf8 : w3.frozen? ⟨w.heap.size, 8, none⟩ = false := rb3.fz 8
  have nc9 : w3.cell? ⟨w.heap.size, 9, none⟩ = some (.bool false) := rb3.at_.c9
  have nf9 : w3.frozen? ⟨w.heap.size, 9, none⟩ = false := rb3.fz 9
  have nc10 : w3.cell? ⟨w.heap.size, 10, none⟩ = some (.int .i64 0) := rb3.at_.c10
  have nf10 : w3.frozen? ⟨w.heap.size, 10, none⟩ = false := rb3.fz 10
  have mc0 : w3.cell? ⟨w1.heap.size, 0, none⟩ = some (.int .i64 r.kind) := rm3.at_.c0
  have mc1 : w3.cell? ⟨w1.heap.size, 1, none⟩ = some (.int .i64 r.tx) := rm3.at_.c1
  have mc2 : w3.cell? ⟨w1.heap.size, 2, none⟩ = some (.int .u16 r.mask) := rm3.at_.c2
  have mc3 : w3.cell? ⟨w1.heap.size, 3, none⟩ = some (.int .u8 r.k0) := rm3.at_.c3
  have mc4 : w3.cell? ⟨w1.heap.size, 4, none⟩ = some (.int .u8 r.k1) := rm3.at_.c4
  have mc5 : w3.cell? ⟨w1.heap.size, 5, none⟩ = some (.int .u8 r.k2) := rm3.at_.c5
  have mc6 : w3.cell? ⟨w1.heap.size, 6, none⟩ = some (.int .u8 r.k3) := rm3.at_.c6
  have mc7 : w3.cell? ⟨w1.heap.size, 7, none⟩ = some (.bool r.oT) := rm3.at_.c7
  have mc8 : w3.cell? ⟨w1.heap.size, 8, none⟩ = some (.int .i64 r.oN) := rm3.at_.c8
  have mc9 : w3.cell? ⟨w1.heap.size, 9, none⟩ = some (.bool r.nT) := rm3.at_.c9
  have mc10 : w3.cell? ⟨w1.heap.size, 10, none⟩ = some (.int .i64 r.nN) := rm3.at_.c10
  go_wp2
  refine bodyPost_ret (v := .tuple #[.agg #[.int .i64 r.kind, .int .i64 r.tx, .int .u16 r.mask, .int .u8 r.k0, .int .u8 r.k1, .int .u8 r.k2, .int .u8 r.k3, .bool r.oT, .int .i64 r.oN, .bool r.nT, .int .i64 r.nN], .int .i64 n]) ?_ rfl ⟨rfl, ?_⟩
  · simp [results, Try.results52, go_sem, nc0, nc1, nc2, nc3, nc4, nc5, nc6, nc7, nc8, nc9, nc10]
  · repeat first | with_reducible exact kw3 | with_reducible refine below_sc ?_ (Nat.le_refl _) _ | with_reducible refine Below.drew ?_
/-- rec.Decode, at every bytes. -/
theorem dec_any (A : Option Addr) (l c : Nat) (zs : List Int) (hl : zs.length = l) (hz : isBytes zs) (w : World) (g : Good A c zs w) :
    Calls Try.prog 52 #[.slice A l c] w (DecSays (decR zs) (decN zs) w) := by
  cases hr : rightB (readL zs) with
  | false =>
    have e : decOK zs = false := by simp [decOK, hr]
    have e1 : decR zs = zeroR := by simp [decR, e]
    have e2 : decN zs = 0 := by simp [decN, e]
    rw [e1, e2]
    exact dec_wrong A l c zs hl hz hr w g
  | true =>
    cases hp : hasP zs (encL (readL zs)) with
    | false =>
      have e : decOK zs = false := by simp [decOK, hr, hp]
      have e1 : decR zs = zeroR := by simp [decR, e]
      have e2 : decN zs = 0 := by simp [decN, e]
      rw [e1, e2]
      exact dec_other A l c _ zs hl hz hr rfl hp w g
    | true =>
      have e : decOK zs = true := by simp [decOK, hr, hp]
      have e1 : decR zs = readL zs := by simp [decR, e]
      have e2 : decN zs = (encL (readL zs)).length := by simp [decN, e]
      rw [e1, e2]
      exact dec_yes A l c _ zs hl hz hr rfl hp w g
end Go.Proofs.Ytdmkkfpbgpijjaa
namespace Go.Proofs.Ytdmkkfpbgpijjaa
open Go.RowKit Go.Deep
set_option linter.unusedVariables false

/-- A record's cells stand at a place. -/
def RecO (W : World) (b o : Nat) (r : RecD) : Prop := ∀ i v, (recC r)[i]? = some v → W.cell? ⟨b, o + i, none⟩ = some v
theorem RecO.below {W W' : World} {b o B : Nat} {r : RecD} (h : RecO W b o r) (hb : Below B W W') (hB : b < B) : RecO W' b o r := fun i v hv => (hb.cell (p := ⟨b, o + i, none⟩) hB).trans (h i v hv)
def RecsAt (B : Nat) (w : World) (A : Option Addr) (rs : List RecD) : Prop :=
  0 < rs.length → ∃ b off, A = some ⟨b, off, none⟩ ∧ b < B ∧ ∀ j r, rs[j]? = some r → RecO w b (off + j * 11) r
def GoodR (A : Option Addr) (c : Nat) (rs : List RecD) (w : World) : Prop := RecsAt w.heap.size w A rs ∧ rs.length ≤ c ∧ (A = none → c = 0)
theorem GoodR.below {A : Option Addr} {c : Nat} {rs : List RecD} {w w' : World} (h : GoodR A c rs w) (hb : Below w.heap.size w w') : GoodR A c rs w' := by
  refine ⟨fun h0 => ?_, h.2⟩
  obtain ⟨b, off, e, hlt, hc⟩ := h.1 h0
  exact ⟨b, off, e, Nat.lt_of_lt_of_le hlt hb.size, fun j r hr => (hc j r hr).below hb hlt⟩
theorem GoodR.alloc {A : Option Addr} {c : Nat} {rs : List RecD} {w : World} (h : GoodR A c rs w) (o : Obj) : GoodR A c rs (w.alloc o) := h.below ((Below.refl _ _).alloc (Nat.le_refl _) o)
theorem GoodR.drewN {A : Option Addr} {c : Nat} {rs : List RecD} {w : World} (h : GoodR A c rs w) (n : Nat) : GoodR A c rs (w.drewN n) := h.below (below_drewN (Below.refl _ _) n)
theorem GoodR.take {A : Option Addr} {c : Nat} {rs : List RecD} {w : World} (h : GoodR A c rs w) (n : Nat) : GoodR A c (rs.take n) w := by
  refine ⟨fun h0 => ?_, by rw [List.length_take]; have := h.2.1; omega, h.2.2⟩
  have h1 : 0 < rs.length := by rw [List.length_take] at h0; omega
  obtain ⟨b, off, e, hlt, hc⟩ := h.1 h1
  refine ⟨b, off, e, hlt, fun j r hr => hc j r ?_⟩
  rw [List.getElem?_take] at hr
  split at hr
  · exact hr
  · cases hr
/-- The eleven cells of record j. -/
theorem GoodR.cells {A : Option Addr} {c : Nat} {rs : List RecD} {w : World} (h : GoodR A c rs w) (j : Nat) (hj : j < rs.length) : ∃ b off, A = .some ⟨b, off, none⟩ ∧ b < w.heap.size ∧ RecO w b (off + j * 11) rs[j] := by
  obtain ⟨b, off, e, hlt, hc⟩ := h.1 (by omega)
  exact ⟨b, off, e, hlt, hc j rs[j] (List.getElem?_eq_getElem hj)⟩
def OwnsR (B : Nat) (w : World) (v : Value) (rs : List RecD) : Prop := w.ownsRow B 48 11 v rs.length (rs.flatMap recC)
theorem recC_len (r : RecD) : (recC r).length = 11 := rfl
theorem flat_at {α β : Type} (f : α → List β) (s : Nat) : ∀ (xs : List α), (∀ x ∈ xs, (f x).length = s) → ∀ (i : Nat) (x : α), xs[i]? = some x → ∀ j, j < s → (xs.flatMap f)[i * s + j]? = (f x)[j]?
  | [], _, i, x, hx, _, _ => by simp at hx
  | y :: xs, h, 0, x, hx, j, hj => by
    simp at hx; subst hx
    have := h y List.mem_cons_self
    rw [List.flatMap_cons, Nat.zero_mul, Nat.zero_add, List.getElem?_append_left (by omega)]
  | y :: xs, h, i + 1, x, hx, j, hj => by
    have h1 := h y List.mem_cons_self
    have e : (i + 1) * s + j = s + (i * s + j) := by rw [Nat.succ_mul]; omega
    rw [List.flatMap_cons, e, ← h1, List.getElem?_append_right (by omega), Nat.add_sub_cancel_left, h1]
    exact flat_at f s xs (fun z hz => h z (List.mem_cons_of_mem _ hz)) i x (by simpa using hx) j hj
theorem OwnsR.good {B : Nat} {w : World} {v : Value} {rs : List RecD} (h : OwnsR B w v rs) : ∃ A c, v = .slice A rs.length c ∧ GoodR A c rs w := by
  rcases h.2 with ⟨rfl, hn⟩ | ⟨g, cap, cur, rfl, _, hh, hnc, _, hsz, htk⟩
  · have : rs = [] := List.eq_nil_of_length_eq_zero hn
    subst this
    exact ⟨none, 0, rfl, fun h => absurd h (by simp), by simp, fun _ => rfl⟩
  · refine ⟨some ⟨g, 0, none⟩, cap, rfl, fun _ => ⟨g, 0, rfl, (Array.getElem?_eq_some_iff.1 hh).1, fun j r hr i u hu => ?_⟩, hnc, fun e => by cases e⟩
    have hi : i < 11 := by
      rcases Nat.lt_or_ge i 11 with hlt | hge
      · exact hlt
      · rw [List.getElem?_eq_none (by rw [recC_len]; exact hge)] at hu; cases hu
    have hf := flat_at recC 11 rs (fun r _ => recC_len r) j r hr i hi
    have hc := World.ownsRow.cells h (g := g) rfl (j * 11 + i) u (by rw [hf, hu])
    rw [Go.WideShapes.add_plain] at hc
    rw [show 0 + j * 11 + i = 0 + (j * 11 + i) by omega]
    exact hc
theorem OwnsR.below {B : Nat} {w w' : World} {v : Value} {rs : List RecD} (h : OwnsR B w v rs) (hb : Below w.heap.size w w') : OwnsR B w' v rs :=
  World.ownsRow.kept h (row := none) ⟨hb.os, hb.tape, hb.output, hb.size, fun j hj _ => hb.block j hj⟩ (by cases hv : v.ownBlock <;> simp)
theorem OwnsR.base {B B' : Nat} {w : World} {v : Value} {rs : List RecD} (h : OwnsR B w v rs) (hB : B' ≤ B) : OwnsR B' w v rs := by
  refine ⟨h.1, ?_⟩
  rcases h.2 with h | ⟨g, cap, cur, h1, h2, h3⟩
  · exact .inl h
  · exact .inr ⟨g, cap, cur, h1, Nat.le_trans hB h2, h3⟩
theorem ownsR_nil (B : Nat) (w : World) : OwnsR B w (.slice none 0 0) [] := ⟨rfl, .inl ⟨rfl, rfl⟩⟩
set_option maxRecDepth 100000 in
theorem info_rec : (Try.prog.info? 48).map (fun i => (i.zero, i.size, i.bytes)) = some (some (.agg (recA zeroR)), 11, 56) := by kernel_rfl
theorem recC_one (r : RecD) : ∀ u ∈ recC r, u.oneCell' = true := by
  intro u hu
  simp only [recC, List.mem_cons, List.not_mem_nil, or_false] at hu
  rcases hu with rfl | rfl | rfl | rfl | rfl | rfl | rfl | rfl | rfl | rfl | rfl <;> rfl
/-- A record appended to records of one's own. -/
theorem wpList_appendR {ops : Array Oper} {rest : List Oper} {o : Oper} {a : Act} {Q : Exit → Act → World → Prop} {W : World} (hgd : o.guard = none) (s x : Operand) (ho : o.op = .call { callee := .builtin .append, args := #[s, x], argTypes := #[28, 28] })
    (base : Nat) (v : Value) (rs : List RecD) (hs : a.eval s = v) (hown : OwnsR base W v rs) (r : RecD) (b c : Nat) (hx : a.eval x = .slice (some ⟨b, 0, none⟩) 1 c) (hb : RecO W b 0 r) (hl : rs.length ≤ 4000) (hbase : base ≤ W.heap.size) (w0 : World) (hbel : Below base w0 W)
    (h : ∀ v' w', OwnsR base w' v' (rs ++ [r]) → Below base w0 w' → wpList Try.prog ops Q rest (a.put o.dst v') w') : wpList Try.prog ops Q (o :: rest) a W := by
  obtain ⟨i0, hi, hz0, hz1, hz2⟩ := info_parts info_rec
  refine wpList_append_own W hgd s x 28 ho base 48 i0 _ 11 56 Try.underlying28 hi hz0 hz1 hz2 rfl (by decide) v rs.length _ hs hown ⟨b, 0, none⟩ 1 c (recC r) hx rfl (fun j u hu => ?_) (recC_one r) (by simp only [maxLen]; omega) (by omega) hbase (fun v' w' hown' hgrow _ => h v' w' ?_ (hbel.grown hgrow hbase (fun k e => (World.ownsRow.lt hown k e).1)))
  · rw [Go.WideShapes.add_plain]
    exact hb j u hu
  · unfold OwnsR
    rw [List.length_append, List.flatMap_append]
    simpa using hown'
theorem recO_new (w : World) (r : RecD) : RecO (w.alloc (.cells (recA r) 48)) w.heap.size 0 r := by
  intro i v hv
  rw [Nat.zero_add, cell_of_row _ w.heap.size i _ 48 (0, 0) (heap_alloc_new w _)]
  simpa [recA, recC] using hv
end Go.Proofs.Ytdmkkfpbgpijjaa
namespace Go.Proofs.Ytdmkkfpbgpijjaa
open Go.ChangeShapes Go.WideShapes Go.ChangeAt Go.RowKit Go.Deep

set_option maxRecDepth 100000 in
theorem own : ownKnob Try.prog.godebug = none := by kernel_rfl
set_option maxRecDepth 100000 in
theorem laidOut : laidOutB Try.prog = true := by kernel_rfl
/-- Bytes that come in. -/
theorem slice_good {H : Type} {enc : TypeId × Value → H} {t e : TypeId} {W : World} {a : Option Addr} {len cap : Nat} {d : DataW H} {p : List MemPlace} (ht : Try.prog.underlying t = some (.slice e)) (he : Try.prog.underlying e = some (.int .u8)) (hc : Try.prog.cellsOf e = 1)
    (h : DataW.Trod enc Try.prog W 0 (fun _ => true) true t (.slice a len cap) d p) : ∃ zs : List Int, zs.length = len ∧ Good a cap zs W ∧ isBytes zs ∧ len ≤ maxLen := by
  obtain ⟨fuel, hf⟩ := h
  rcases open_ints ht he hc hf with ⟨hcs, _⟩ | ⟨x, l, c, zs, hcs, _, hl, hm, hz, _, hcell, hwz⟩
  · simp [Value.cells] at hcs
    obtain ⟨rfl, rfl, rfl⟩ := hcs
    exact ⟨[], rfl, Good.nil W, (fun z hz => by cases hz), by simp⟩
  · simp [Value.cells] at hcs
    obtain ⟨rfl, rfl, rfl⟩ := hcs
    have hz' : zs.length = cap := by simpa using hz
    have hlen : (zs.take len).length = len := by rw [List.length_take]; omega
    refine ⟨zs.take len, hlen, ⟨fun h0 => ?_, by omega, fun e => by cases e⟩, fun n hn => by have := bounds_u8 (hwz n (List.mem_of_mem_take hn)); omega, by omega⟩
    obtain ⟨b, off, rfl, hcc⟩ := ints_at hcell (by omega)
    have hb : b < W.heap.size := by
      have h1 := hcc 0 (by omega)
      rcases Nat.lt_or_ge b W.heap.size with hlt | hge
      · exact hlt
      · simp [World.cell?, Array.getElem?_eq_none hge] at h1
    refine ⟨b, off, rfl, hb, fun j hj => ?_⟩
    rw [hlen] at hj
    have h1 := hcc j (by omega)
    rw [h1]
    simp [List.getElem?_take_of_lt hj, List.getD]
set_option maxRecDepth 100000 in
theorem one_val {H : Type} {enc : TypeId × Value → H} {W : World} {v0 v1 : Value} {n : Nat} {x : DataW H × List MemPlace} (h : DataW.trod enc Try.prog W 0 (fun _ => true) true n 46 [v0, v1] = some x) : ∃ t k, v0 = .bool t ∧ v1 = .int .i64 k ∧ isI64 k := by
  obtain ⟨ys, n', _, _, _, hyl, hf⟩ := DataW.trod_struct Try.underlying46 h
  match ys, hyl with
  | [y0, y1], _ =>
    have f0 : DataW.trod enc Try.prog W 0 (fun _ => true) true n' 4 (([v0, v1].drop 0).take (Try.prog.cellsOf 4)) = some y0 := hf 0 _ rfl
    have f1 : DataW.trod enc Try.prog W 0 (fun _ => true) true n' 3 (([v0, v1].drop 1).take (Try.prog.cellsOf 3)) = some y1 := hf 1 _ rfl
    rw [show Try.prog.cellsOf 3 = 1 by kernel_rfl] at f1
    rw [show Try.prog.cellsOf 4 = 1 by kernel_rfl] at f0
    obtain ⟨b0, e0, _⟩ := DataW.trod_bool Try.underlying4 (show DataW.trod enc Try.prog W 0 (fun _ => true) true n' 4 [v0] = some y0 from f0)
    obtain ⟨a1, e1, _, w1⟩ := DataW.trod_int Try.underlying3 (show DataW.trod enc Try.prog W 0 (fun _ => true) true n' 3 [v1] = some y1 from f1)
    simp only [List.cons.injEq, and_true] at e0 e1
    have := bounds_i64 w1
    exact ⟨b0, a1, e0, e1, by omega, by omega⟩
set_option maxRecDepth 100000 in
theorem one_key {H : Type} {enc : TypeId × Value → H} {W : World} {v0 v1 v2 v3 : Value} {n : Nat} {x : DataW H × List MemPlace} (h : DataW.trod enc Try.prog W 0 (fun _ => true) true n 44 [v0, v1, v2, v3] = some x) :
    ∃ a b c d, v0 = .int .u8 a ∧ v1 = .int .u8 b ∧ v2 = .int .u8 c ∧ v3 = .int .u8 d ∧ (0 ≤ a ∧ a < 256) ∧ (0 ≤ b ∧ b < 256) ∧ (0 ≤ c ∧ c < 256) ∧ (0 ≤ d ∧ d < 256) := by
  obtain ⟨ys, n', _, _, _, hyl, hf⟩ := DataW.trod_array Try.underlying44 h
  rw [show Try.prog.cellsOf 5 = 1 by kernel_rfl] at hf
  match ys, hyl with
  | [y0, y1, y2, y3], _ =>
    obtain ⟨a0, e0, _, w0⟩ := DataW.trod_int Try.underlying5 (show DataW.trod enc Try.prog W 0 (fun _ => true) true n' 5 [v0] = some y0 from hf 0 (by omega))
    obtain ⟨a1, e1, _, w1⟩ := DataW.trod_int Try.underlying5 (show DataW.trod enc Try.prog W 0 (fun _ => true) true n' 5 [v1] = some y1 from hf 1 (by omega))
    obtain ⟨a2, e2, _, w2⟩ := DataW.trod_int Try.underlying5 (show DataW.trod enc Try.prog W 0 (fun _ => true) true n' 5 [v2] = some y2 from hf 2 (by omega))
    obtain ⟨a3, e3, _, w3⟩ := DataW.trod_int Try.underlying5 (show DataW.trod enc Try.prog W 0 (fun _ => true) true n' 5 [v3] = some y3 from hf 3 (by omega))
    simp only [List.cons.injEq, and_true] at e0 e1 e2 e3
    have b0 := bounds_u8 w0
    have b1 := bounds_u8 w1
    have b2 := bounds_u8 w2
    have b3 := bounds_u8 w3
    exact ⟨a0, a1, a2, a3, e0, e1, e2, e3, by omega, by omega, by omega, by omega⟩
set_option maxRecDepth 100000 in
/-- A record that comes in. -/
theorem one_rec {H : Type} {enc : TypeId × Value → H} {W : World} {cs : List Value} {n : Nat} {x : DataW H × List MemPlace} (hl : cs.length = 11) (h : DataW.trod enc Try.prog W 0 (fun _ => true) true n 48 cs = some x) :
    ∃ r : RecD, cs = recC r ∧ okR r := by
  match cs, hl with
  | [v0, v1, v2, v3, v4, v5, v6, v7, v8, v9, v10], _ =>
    obtain ⟨ys, n', _, _, _, hyl, hf⟩ := DataW.trod_struct Try.underlying48 h
    match ys, hyl with
    | [y0, y1, y2, y3, y4, y5], _ =>
      have f0 : DataW.trod enc Try.prog W 0 (fun _ => true) true n' 3 (([v0, v1, v2, v3, v4, v5, v6, v7, v8, v9, v10].drop 0).take (Try.prog.cellsOf 3)) = some y0 := hf 0 _ rfl
      have f1 : DataW.trod enc Try.prog W 0 (fun _ => true) true n' 3 (([v0, v1, v2, v3, v4, v5, v6, v7, v8, v9, v10].drop 1).take (Try.prog.cellsOf 3)) = some y1 := hf 1 _ rfl
      have f2 : DataW.trod enc Try.prog W 0 (fun _ => true) true n' 42 (([v0, v1, v2, v3, v4, v5, v6, v7, v8, v9, v10].drop 2).take (Try.prog.cellsOf 42)) = some y2 := hf 2 _ rfl
      have f3 : DataW.trod enc Try.prog W 0 (fun _ => true) true n' 44 (([v0, v1, v2, v3, v4, v5, v6, v7, v8, v9, v10].drop 3).take (Try.prog.cellsOf 44)) = some y3 := hf 3 _ rfl
      have f4 : DataW.trod enc Try.prog W 0 (fun _ => true) true n' 46 (([v0, v1, v2, v3, v4, v5, v6, v7, v8, v9, v10].drop 7).take (Try.prog.cellsOf 46)) = some y4 := hf 4 _ rfl
      have f5 : DataW.trod enc Try.prog W 0 (fun _ => true) true n' 46 (([v0, v1, v2, v3, v4, v5, v6, v7, v8, v9, v10].drop 9).take (Try.prog.cellsOf 46)) = some y5 := hf 5 _ rfl
      rw [show Try.prog.cellsOf 3 = 1 by kernel_rfl] at f0 f1
      rw [show Try.prog.cellsOf 42 = 1 by kernel_rfl] at f2
      rw [show Try.prog.cellsOf 44 = 4 by kernel_rfl] at f3
      rw [show Try.prog.cellsOf 46 = 2 by kernel_rfl] at f4 f5
      obtain ⟨a0, e0, _, _⟩ := DataW.trod_int Try.underlying3 (show DataW.trod enc Try.prog W 0 (fun _ => true) true n' 3 [v0] = some y0 from f0)
      obtain ⟨a1, e1, _, _⟩ := DataW.trod_int Try.underlying3 (show DataW.trod enc Try.prog W 0 (fun _ => true) true n' 3 [v1] = some y1 from f1)
      obtain ⟨a2, e2, _, w2⟩ := DataW.trod_int Try.underlying42 (show DataW.trod enc Try.prog W 0 (fun _ => true) true n' 42 [v2] = some y2 from f2)
      obtain ⟨k0, k1, k2, k3, q0, q1, q2, q3, p0, p1, p2, p3⟩ := one_key (show DataW.trod enc Try.prog W 0 (fun _ => true) true n' 44 [v3, v4, v5, v6] = some y3 from f3)
      obtain ⟨t4, n4, r0, r1, i4⟩ := one_val (show DataW.trod enc Try.prog W 0 (fun _ => true) true n' 46 [v7, v8] = some y4 from f4)
      obtain ⟨t5, n5, s0, s1, i5⟩ := one_val (show DataW.trod enc Try.prog W 0 (fun _ => true) true n' 46 [v9, v10] = some y5 from f5)
      simp only [List.cons.injEq, and_true] at e0 e1 e2
      have b2 : 0 ≤ a2 ∧ a2 < 65536 := by have := bounds_u16 w2; omega
      subst e0 e1 e2 q0 q1 q2 q3 r0 r1 s0 s1
      refine ⟨⟨a0, a1, a2.toNat, k0, k1, k2, k3, t4, n4, t5, n5⟩, ?_, ⟨by dsimp only; omega, p0, p1, p2, p3, i4, i5⟩⟩
      simp only [recC]
      rw [show ((a2.toNat : Nat) : Int) = a2 by omega]
set_option maxRecDepth 100000 in
/-- A record by value that comes in. -/
theorem rec_value {H : Type} {enc : TypeId × Value → H} {W : World} {r0 : Reach} {b0 : Nat} {v : Value} {d : DataW H} {p : List MemPlace} (hv : Value.okWide Try.prog W r0 b0 48 v) (h : DataW.Trod enc Try.prog W 0 (fun _ => true) true 48 v d p) : ∃ r : RecD, v = recV r ∧ okR r := by
  obtain ⟨cs, rfl, hsz⟩ := okWide_struct Try.underlying48 hv
  rw [show Try.prog.cellsOf 48 = 11 by kernel_rfl] at hsz
  obtain ⟨fuel, hf⟩ := h
  obtain ⟨r, e, ok⟩ := one_rec (cs := cs.toList) (by simpa using hsz) hf
  refine ⟨r, ?_, ok⟩
  unfold recV
  rw [← e]
set_option maxRecDepth 100000 in
/-- Lists of records that come in. -/
theorem slice_recs {H : Type} {enc : TypeId × Value → H} {W : World} {a : Option Addr} {len cap : Nat} {d : DataW H} {p : List MemPlace} (h : DataW.Trod enc Try.prog W 0 (fun _ => true) true 28 (.slice a len cap) d p) :
    ∃ rs : List RecD, rs.length = len ∧ GoodR a cap rs W ∧ (∀ r ∈ rs, okR r) ∧ len ≤ maxLen := by
  obtain ⟨fuel, hf⟩ := h
  rcases open_slice Try.underlying28 hf with ⟨hcs, _⟩ | ⟨x, l, c, m, n, D, Pl, hcs, _, hl, hm, hmm, _, hi⟩
  · simp [Value.cells] at hcs
    obtain ⟨rfl, rfl, rfl⟩ := hcs
    exact ⟨[], rfl, ⟨fun h0 => absurd h0 (by simp), by simp, fun _ => rfl⟩, (fun _ hx => by cases hx), by simp⟩
  · simp [Value.cells] at hcs
    obtain ⟨rfl, rfl, rfl⟩ := hcs
    rw [show Try.prog.cellsOf 48 = 11 by kernel_rfl] at hi
    have hmc : len ≤ m := by rw [hmm]; simpa using hl
    rcases Nat.eq_zero_or_pos len with h0 | h0
    · subst h0
      exact ⟨[], rfl, ⟨fun h0 => absurd h0 (by simp), by simp, fun e => by cases e⟩, (fun _ hx => by cases hx), by simp⟩
    · obtain ⟨b, off, spot⟩ := x
      obtain ⟨cs0, hc0, _⟩ := hi 0 (by omega)
      have hspot : spot = none := by
        obtain ⟨_, hl0, hat0⟩ := World.cells?_some hc0
        have := hat0 0 (by omega)
        rw [List.getElem?_eq_getElem (by omega)] at this
        simpa [Addr.add] using World.cell?_spot this
      subst hspot
      have hall : ∀ i, i < len → ∃ r : RecD, RecO W b (off + i * 11) r ∧ okR r := fun i hil => by
        obtain ⟨cs', hc', ht'⟩ := hi i (by omega)
        rw [Go.WideShapes.add_plain] at hc'
        obtain ⟨_, hl', hat'⟩ := World.cells?_some hc'
        obtain ⟨r, e, ok⟩ := one_rec hl' ht'
        refine ⟨r, fun j v hv => ?_, ok⟩
        have hj : j < 11 := by
          rcases Nat.lt_or_ge j 11 with hlt | hge
          · exact hlt
          · rw [List.getElem?_eq_none (by rw [recC_len]; exact hge)] at hv; cases hv
        have := hat' j hj
        rw [Go.WideShapes.add_plain, e, hv] at this
        exact this
      have hcho : ∀ i, ∃ r : RecD, i < len → RecO W b (off + i * 11) r ∧ okR r := fun i => by
        by_cases hil : i < len
        · obtain ⟨y, hy⟩ := hall i hil; exact ⟨y, fun _ => hy⟩
        · exact ⟨zeroR, fun h => absurd h hil⟩
      let Y : Nat → RecD := fun i => (hcho i).choose
      have hY : ∀ i, i < len → RecO W b (off + i * 11) (Y i) ∧ okR (Y i) := fun i => (hcho i).choose_spec
      have hblt : b < W.heap.size := World.block_lt_of_cell? W _ ((hY 0 h0).1 0 _ rfl)
      refine ⟨(List.range len).map Y, by simp, ⟨fun _ => ⟨b, off, rfl, hblt, fun j r hj => ?_⟩, by simp; omega, fun e => by cases e⟩, fun x hx => ?_, by omega⟩
      · have hjl : j < len := by
          rcases Nat.lt_or_ge j len with h | h
          · exact h
          · rw [List.getElem?_eq_none (by simpa using h)] at hj; cases hj
        simp [hjl] at hj
        subst hj
        exact (hY j hjl).1
      · simp only [List.mem_map, List.mem_range] at hx
        obtain ⟨i, hil, rfl⟩ := hx
        exact (hY i hil).2
end Go.Proofs.Ytdmkkfpbgpijjaa
namespace Go.Proofs.Ytdmkkfpbgpijjaa

/-- What lasts, and the writes in the cache, in order. -/
structure St where
  safe : List (List Int)
  cache : List (Nat × List Int)

def carry : List (List Int) → List (Nat × List Int) → List (List Int)
  | s, [] => s
  | s, p :: ws => carry (s.set p.1 p.2) ws
def secAt (s : List (List Int)) (i : Nat) : List Int := s[i]?.getD []
def lastIn (i : Nat) : List (Nat × List Int) → Option (List Int)
  | [] => none
  | p :: ws => match lastIn i ws with
    | some z => some z
    | none => if p.1 = i then some p.2 else none

theorem carry_append (ws vs : List (Nat × List Int)) : ∀ s, carry s (ws ++ vs) = carry (carry s ws) vs := by
  induction ws with
  | nil => intro s; rfl
  | cons p ws ih => intro s; exact ih _
theorem carry_snoc (s : List (List Int)) (ws : List (Nat × List Int)) (p : Nat × List Int) : carry s (ws ++ [p]) = (carry s ws).set p.1 p.2 := by rw [carry_append]; rfl
theorem length_carry (ws : List (Nat × List Int)) : ∀ s, (carry s ws).length = s.length := by
  induction ws with
  | nil => intro s; rfl
  | cons p ws ih => intro s; rw [carry, ih]; simp
theorem secAt_set (s : List (List Int)) (i j : Nat) (z : List Int) (hi : i < s.length) : secAt (s.set j z) i = if j = i then z else secAt s i := by
  unfold secAt
  rw [List.getElem?_set]
  by_cases h : j = i
  · subst h; simp [hi]
  · simp [h]
theorem carry_at (ws : List (Nat × List Int)) (i : Nat) : ∀ s : List (List Int), i < s.length → secAt (carry s ws) i = (lastIn i ws).getD (secAt s i) := by
  induction ws with
  | nil => intro s _; rfl
  | cons p ws ih =>
    intro s hi
    rw [carry, ih _ (by simpa using hi), secAt_set _ _ _ _ hi, lastIn]
    cases lastIn i ws with
    | some z => rfl
    | none => by_cases h : p.1 = i <;> simp [h]
theorem lastIn_snoc (i : Nat) (ws : List (Nat × List Int)) (p : Nat × List Int) : lastIn i (ws ++ [p]) = if p.1 = i then some p.2 else lastIn i ws := by
  induction ws with
  | nil => simp [lastIn]
  | cons q ws ih =>
    rw [List.cons_append, lastIn, ih]
    by_cases h : p.1 = i
    · simp [h]
    · rw [if_neg h, if_neg h]; rfl
theorem lastIn_mem (i : Nat) (ws : List (Nat × List Int)) (z : List Int) (h : lastIn i ws = some z) : (i, z) ∈ ws := by
  induction ws with
  | nil => simp [lastIn] at h
  | cons q ws ih =>
    rw [lastIn] at h
    cases hl : lastIn i ws with
    | some y => rw [hl] at h; simp at h; subst h; exact List.mem_cons_of_mem _ (ih hl)
    | none =>
      rw [hl] at h
      simp at h
      obtain ⟨h1, h2⟩ := h
      have : q = (i, z) := by rw [← h1, ← h2]
      rw [this]; exact List.mem_cons_self

/-- There are n sectors of 32 bytes, and each write in the cache is of one of them. -/
structure Wf (n : Nat) (st : St) : Prop where
  len : st.safe.length = n
  secs : ∀ z ∈ st.safe, z.length = 32
  at_ : ∀ p ∈ st.cache, p.1 < n
  has : ∀ p ∈ st.cache, p.2.length = 32

def nows (st : St) : List (List Int) := carry st.safe st.cache
def nowAt (st : St) (i : Nat) : List Int := secAt (nows st) i
def goodAt (n : Nat) (i : Int) : Bool := decide (0 ≤ i) && decide (i < n)
def writeS (st : St) (i : Nat) (zs : List Int) : St := { st with cache := st.cache ++ [(i, zs)] }
def flushS (st : St) : St := { safe := nows st, cache := [] }
def keptOf (keep : Int) (l : Nat) : Nat := min keep.toNat l
def tearOf (tear : Int) : Nat := min tear.toNat 31
def tornS (s : List (List Int)) (p : Nat × List Int) (t : Nat) : List (List Int) := s.set p.1 (p.2.take t ++ (secAt s p.1).drop t)
def crashL (s : List (List Int)) (ws : List (Nat × List Int)) (keep tear : Int) : List (List Int) :=
  match ws[keptOf keep ws.length]? with
  | none => carry s ws
  | some p => tornS (carry s (ws.take (keptOf keep ws.length))) p (tearOf tear)
def crashS (st : St) (keep tear : Int) : St := { safe := crashL st.safe st.cache keep tear, cache := [] }

theorem mem_carry (ws : List (Nat × List Int)) (h : ∀ p ∈ ws, p.2.length = 32) : ∀ s : List (List Int), (∀ z ∈ s, z.length = 32) → ∀ z ∈ carry s ws, z.length = 32 := by
  induction ws with
  | nil => intro s hs; exact hs
  | cons p ws ih =>
    intro s hs
    refine ih (fun q hq => h q (List.mem_cons_of_mem _ hq)) _ ?_
    intro z hz
    rcases List.mem_or_eq_of_mem_set hz with h1 | h1
    · exact hs z h1
    · rw [h1]; exact h p List.mem_cons_self
theorem secAt_mem {s : List (List Int)} {i : Nat} (hi : i < s.length) : secAt s i ∈ s := by
  unfold secAt; rw [List.getElem?_eq_getElem hi]; exact List.getElem_mem hi
theorem secAt_len {s : List (List Int)} {n i : Nat} (hl : s.length = n) (hs : ∀ z ∈ s, z.length = 32) (hi : i < n) : (secAt s i).length = 32 := hs _ (secAt_mem (by omega))
theorem Wf.nows_len {n : Nat} {st : St} (h : Wf n st) : (nows st).length = n := by unfold nows; rw [length_carry, h.len]
theorem Wf.nows_secs {n : Nat} {st : St} (h : Wf n st) : ∀ z ∈ nows st, z.length = 32 := mem_carry _ h.has _ h.secs
theorem Wf.now_len {n : Nat} {st : St} (h : Wf n st) {i : Nat} (hi : i < n) : (nowAt st i).length = 32 := secAt_len h.nows_len h.nows_secs hi
theorem Wf.write {n : Nat} {st : St} (h : Wf n st) {i : Nat} {zs : List Int} (hi : i < n) (hz : zs.length = 32) : Wf n (writeS st i zs) := by
  refine ⟨h.len, h.secs, ?_, ?_⟩
  · intro p hp
    simp only [writeS, List.mem_append, List.mem_singleton] at hp
    rcases hp with hp | rfl
    · exact h.at_ p hp
    · exact hi
  · intro p hp
    simp only [writeS, List.mem_append, List.mem_singleton] at hp
    rcases hp with hp | rfl
    · exact h.has p hp
    · exact hz
theorem Wf.carry {n : Nat} {st : St} (h : Wf n st) (l : Nat) : Wf n { st with safe := carry st.safe (st.cache.take l) } :=
  ⟨by rw [length_carry, h.len], mem_carry _ (fun p hp => h.has p (List.mem_of_mem_take hp)) _ h.secs, h.at_, h.has⟩
theorem Wf.empty {n : Nat} {st : St} (h : Wf n st) : Wf n { st with cache := [] } := ⟨h.len, h.secs, (fun _ hp => by cases hp), (fun _ hp => by cases hp)⟩
theorem Wf.flush {n : Nat} {st : St} (h : Wf n st) : Wf n (flushS st) := ⟨h.nows_len, h.nows_secs, (fun _ hp => by cases hp), (fun _ hp => by cases hp)⟩
theorem torn_len {n : Nat} {s : List (List Int)} {p : Nat × List Int} {t : Nat} (hl : s.length = n) (hs : ∀ z ∈ s, z.length = 32) (hi : p.1 < n) (hz : p.2.length = 32) (ht : t ≤ 31) : (tornS s p t).length = n ∧ ∀ z ∈ tornS s p t, z.length = 32 := by
  refine ⟨by unfold tornS; simpa using hl, fun z hz' => ?_⟩
  rcases List.mem_or_eq_of_mem_set hz' with h1 | h1
  · exact hs z h1
  · have := secAt_len hl hs hi
    rw [h1]; simp; omega
theorem Wf.crash {n : Nat} {st : St} (h : Wf n st) (keep tear : Int) : Wf n (crashS st keep tear) := by
  have hc := h.carry (keptOf keep st.cache.length)
  unfold crashS crashL
  cases e : st.cache[keptOf keep st.cache.length]? with
  | none => exact ⟨h.nows_len, h.nows_secs, (fun _ hp => by cases hp), (fun _ hp => by cases hp)⟩
  | some p =>
    have hp := List.mem_of_getElem? e
    obtain ⟨h1, h2⟩ := torn_len (t := tearOf tear) hc.len hc.secs (h.at_ p hp) (h.has p hp) (by unfold tearOf; omega)
    exact ⟨h1, h2, (fun _ hp => by cases hp), (fun _ hp => by cases hp)⟩
theorem now_write {n : Nat} {st : St} (h : Wf n st) {i j : Nat} {zs : List Int} (hj : j < n) : nowAt (writeS st i zs) j = if i = j then zs else nowAt st j := by
  show secAt (carry st.safe (st.cache ++ [(i, zs)])) j = _
  rw [carry_snoc, secAt_set _ _ _ _ (by rw [length_carry, h.len]; exact hj)]
  rfl
theorem now_flush (st : St) (i : Nat) : nowAt (flushS st) i = nowAt st i := rfl

/-! ### all bytes, one behind the other -/
theorem flat_len {n : Nat} (s : List (List Int)) (hl : s.length = n) (hs : ∀ z ∈ s, z.length = 32) : s.flatten.length = 32 * n := by
  induction s generalizing n with
  | nil => simp at hl; subst hl; rfl
  | cons z s ih =>
    have h1 := ih (n := n - 1) (by simp at hl; omega) (fun y hy => hs y (List.mem_cons_of_mem _ hy))
    have h2 := hs z List.mem_cons_self
    simp at hl ⊢
    simp at h1
    omega
theorem flat_take (s : List (List Int)) (i : Nat) (hi : i < s.length) : (s.take (i + 1)).flatten = (s.take i).flatten ++ secAt s i := by
  have e : secAt s i = s[i] := by simp [secAt, hi]
  rw [List.take_succ_eq_append_getElem hi, List.flatten_append, e]
  simp
theorem flat_sec {n : Nat} (s : List (List Int)) (hl : s.length = n) (hs : ∀ z ∈ s, z.length = 32) (i : Nat) (hi : i < n) : (s.flatten.drop (32 * i)).take 32 = secAt s i := by
  induction s generalizing n i with
  | nil => simp at hl; omega
  | cons z s ih =>
    have h2 := hs z List.mem_cons_self
    rw [List.flatten_cons]
    cases i with
    | zero => simp [secAt, h2]
    | succ i =>
      have e : 32 * (i + 1) = z.length + 32 * i := by omega
      rw [e, List.drop_append]
      have e1 : List.drop (z.length + 32 * i) z = [] := List.drop_eq_nil_of_le (by omega)
      rw [e1, List.nil_append, Nat.add_sub_cancel_left]
      exact ih (n := n - 1) (by simp at hl; omega) (fun y hy => hs y (List.mem_cons_of_mem _ hy)) i (by omega)
end Go.Proofs.Ytdmkkfpbgpijjaa
namespace Go.Proofs.Ytdmkkfpbgpijjaa
open Go.RowKit Go.Deep Go.Maps

/-- w' is w but for the blocks F, and new ones. -/
structure Moves (F : Nat → Prop) (w w' : World) : Prop where
  os : w'.os = w.os
  tape : w'.tape = w.tape
  output : w'.output = w.output
  size : w.heap.size ≤ w'.heap.size
  block : ∀ k, k < w.heap.size → ¬ F k → w'.heap[k]? = w.heap[k]?
theorem Moves.refl (F : Nat → Prop) (w : World) : Moves F w w := ⟨rfl, rfl, rfl, Nat.le_refl _, fun _ _ _ => rfl⟩
theorem Moves.below {F : Nat → Prop} {w w' : World} {B : Nat} (h : Moves F w w') (hB : B ≤ w.heap.size) (hF : ∀ k, F k → B ≤ k) : Below B w w' :=
  ⟨h.os, h.tape, h.output, h.size, fun k hk => h.block k (by omega) (fun e => by have := hF k e; omega)⟩
theorem moves_of_below {F : Nat → Prop} {w w' : World} (h : Below w.heap.size w w') : Moves F w w' := ⟨h.os, h.tape, h.output, h.size, fun k hk _ => h.block k hk⟩
theorem moves_of_grown {F : Nat → Prop} {w w' : World} {row : Option Nat} (h : w.grownBy w' row) (hF : ∀ k, row = some k → F k) : Moves F w w' :=
  ⟨h.os, h.tape, h.output, h.size, fun k hk hn => h.block k hk (fun e => hn (hF k e.symm))⟩
theorem Moves.trans {F F' : Nat → Prop} {a b c : World} (h : Moves F a b) (k : Moves F' b c) (hF : ∀ i, F' i → F i ∨ a.heap.size ≤ i) : Moves F a c :=
  ⟨k.os.trans h.os, k.tape.trans h.tape, k.output.trans h.output, Nat.le_trans h.size k.size, fun i hi hn => (k.block i (Nat.lt_of_lt_of_le hi h.size) (fun e => (hF i e).elim hn (fun g => by omega))).trans (h.block i hi hn)⟩
theorem Moves.mono {F F' : Nat → Prop} {a b : World} (h : Moves F a b) (hF : ∀ i, F i → F' i) : Moves F' a b := ⟨h.os, h.tape, h.output, h.size, fun k hk hn => h.block k hk (fun e => hn (hF k e))⟩
theorem moves_alloc (F : Nat → Prop) (w : World) (o : Obj) : Moves F w (w.alloc o) := moves_of_below ((Below.refl _ _).alloc (Nat.le_refl _) o)
theorem moves_drewN (F : Nat → Prop) (w : World) (n : Nat) : Moves F w (w.drewN n) := moves_of_below (below_drewN (Below.refl _ _) n)
theorem moves_setCell (F : Nat → Prop) (w : World) (a : Addr) (v : Value) (h : F a.block) : Moves F w (w.setCell a v) := by
  have hb := (Below.refl 0 w).setCell (Nat.zero_le a.block) v
  exact ⟨hb.os, hb.tape, hb.output, hb.size, fun k _ hn => RowKit.Below.heap_setCell _ _ _ _ (fun e => hn (e ▸ h))⟩
theorem moves_setCells (F : Nat → Prop) (b : Nat) (h : F b) : ∀ (vs : List Value) (o : Nat) (w : World), Moves F w (w.setCells b o vs)
  | [], _, w => Moves.refl F w
  | v :: vs, o, w => (moves_setCell F w ⟨b, o, none⟩ v h).trans (moves_setCells F b h vs (o + 1) _) (fun _ hi => .inl hi)

/-- The blocks that are F, or new between w and w'. -/
def grow (F : Nat → Prop) (w w' : World) (k : Nat) : Prop := F k ∨ (w.heap.size ≤ k ∧ k < w'.heap.size)

/-! ### a sector's bytes -/
def secC (zs : List Int) : List Value := zs.map (Value.int .u8)
def wrC (p : Nat × List Int) : List Value := Value.int .i64 p.1 :: secC p.2
theorem secC_len (zs : List Int) : (secC zs).length = zs.length := by simp [secC]
theorem secC_one (zs : List Int) : ∀ v ∈ secC zs, v.oneCell' = true := by
  intro v hv
  simp only [secC, List.mem_map] at hv
  obtain ⟨z, _, rfl⟩ := hv
  rfl
theorem wrC_one (p : Nat × List Int) : ∀ v ∈ wrC p, v.oneCell' = true := by
  intro v hv
  rcases List.mem_cons.1 hv with rfl | hv
  · rfl
  · exact secC_one _ v hv
def litOf : Value → DataW Unit
  | .int k a => .lit (.int k a)
  | _ => .nil
def secR (v : Value) : Option (DataW Unit × List MemPlace) := match v with
  | .agg cs => some (.agg (cs.toList.map litOf), [])
  | _ => none
def secD (zs : List Int) : DataW Unit := .agg (zs.map fun z => .lit (.int .u8 z))
theorem secR_mk (zs : List Int) : secR (.agg (secC zs).toArray) = some (secD zs, []) := by
  simp [secR, secC, secD, litOf, Function.comp_def]
theorem litOf_inv {v : Value} {z : Int} (h : litOf v = .lit (.int .u8 z)) : v = .int .u8 z := by
  cases v <;> simp [litOf] at h
  obtain ⟨rfl, rfl⟩ := h
  rfl
theorem map_litOf_inv : ∀ (l : List Value) (zs : List Int), l.map litOf = zs.map (fun z => DataW.lit (.int .u8 z)) → l = secC zs
  | [], [], _ => rfl
  | [], _ :: _, h => by simp at h
  | _ :: _, [], h => by simp at h
  | v :: l, z :: zs, h => by
    simp only [List.map_cons, List.cons.injEq] at h
    rw [litOf_inv h.1, map_litOf_inv l zs h.2]
    rfl
theorem secR_inv {v : Value} {zs : List Int} {ps : List MemPlace} (h : secR v = some (secD zs, ps)) : v = .agg (secC zs).toArray := by
  cases v <;> simp [secR, secD] at h
  rename_i cs
  have := map_litOf_inv cs.toList zs h.1
  rw [← this]
def keyL (i : Nat) : Lit := .int .i64 i
def mapOf (ws : List (Nat × List Int)) : DataW Unit := ws.foldl (fun D p => D.put (keyL p.1) (secD p.2)) (.map [])
theorem mapOf_snoc (ws : List (Nat × List Int)) (p : Nat × List Int) : mapOf (ws ++ [p]) = (mapOf ws).put (keyL p.1) (secD p.2) := by simp [mapOf, List.foldl_append]
theorem isKeyL (i : Nat) : WideAt.IsKeyLit (keyL i) := trivial
theorem keyL_ne {i j : Nat} (h : i ≠ j) : keyL i ≠ keyL j := by
  intro e
  simp only [keyL, Lit.int.injEq, true_and] at e
  omega
theorem mapOf_isMap (ws : List (Nat × List Int)) : IsMap (mapOf ws) := by
  suffices h : ∀ D : DataW Unit, IsMap D → IsMap (ws.foldl (fun D p => D.put (keyL p.1) (secD p.2)) D) from h _ isMap_empty
  induction ws with
  | nil => intro D h; exact h
  | cons p ws ih => intro D h; exact ih _ (h.put _ _)
theorem mapOf_says (i : Nat) (ws : List (Nat × List Int)) (z : DataW Unit) : Maps.has (mapOf ws) (keyL i) = (lastIn i ws).isSome ∧ (mapOf ws).atKey (keyL i) z = ((lastIn i ws).map secD).getD z := by
  suffices h : ∀ rs : List (Nat × List Int), Maps.has (mapOf rs.reverse) (keyL i) = (lastIn i rs.reverse).isSome ∧ (mapOf rs.reverse).atKey (keyL i) z = ((lastIn i rs.reverse).map secD).getD z by
    have := h ws.reverse
    rwa [List.reverse_reverse] at this
  intro rs
  induction rs with
  | nil => exact ⟨rfl, rfl⟩
  | cons p rs ih =>
    rw [List.reverse_cons, mapOf_snoc, lastIn_snoc]
    by_cases h : p.1 = i
    · subst h
      rw [if_pos rfl, has_put_same (mapOf_isMap _) (isKeyL _), atKey_put_same (mapOf_isMap _) (isKeyL _)]
      exact ⟨rfl, rfl⟩
    · rw [if_neg h, has_put_other (keyL_ne (Ne.symm h)), atKey_put_other (keyL_ne (Ne.symm h))]
      exact ih

/-! ### lists of cells, part by part -/
theorem flatD_at {α β : Type} (f : α → List β) (s : Nat) : ∀ (xs : List α), (∀ x ∈ xs, (f x).length = s) → ∀ (i : Nat) (x : α), xs[i]? = some x → ∀ j, j < s → (xs.flatMap f)[i * s + j]? = (f x)[j]?
  | [], _, i, x, hx, _, _ => by simp at hx
  | y :: xs, h, 0, x, hx, j, hj => by
    simp at hx; subst hx
    have := h y List.mem_cons_self
    rw [List.flatMap_cons, Nat.zero_mul, Nat.zero_add, List.getElem?_append_left (by omega)]
  | y :: xs, h, i + 1, x, hx, j, hj => by
    have h1 := h y List.mem_cons_self
    have e : (i + 1) * s + j = s + (i * s + j) := by rw [Nat.succ_mul]; omega
    rw [List.flatMap_cons, e, ← h1, List.getElem?_append_right (by omega), Nat.add_sub_cancel_left, h1]
    exact flatD_at f s xs (fun z hz => h z (List.mem_cons_of_mem _ hz)) i x (by simpa using hx) j hj
theorem flat_length {α β : Type} (f : α → List β) (s : Nat) (xs : List α) (h : ∀ x ∈ xs, (f x).length = s) : (xs.flatMap f).length = xs.length * s := by
  induction xs with
  | nil => simp
  | cons x xs ih =>
    rw [List.flatMap_cons, List.length_append, ih (fun z hz => h z (List.mem_cons_of_mem _ hz)), h x List.mem_cons_self, List.length_cons, Nat.succ_mul]
    omega

/-! ### a disk in memory -/
def Secs (w : World) (lb : Nat) (s : List (List Int)) : Prop := ∀ i, i < s.length → w.rangeAt lb (i * 32) (secC (secAt s i)) ∧ w.there lb (i * 32) 32
structure DiskIn (w : World) (db lb mb : Nat) (cv : Value) (n : Nat) (st : St) : Prop where
  c0 : w.cell? ⟨db, 0, none⟩ = some (.slice (some ⟨lb, 0, none⟩) n n)
  c1 : w.cell? ⟨db, 1, none⟩ = some cv
  c2 : w.cell? ⟨db, 2, none⟩ = some (.map (some mb))
  fz : w.frozen? ⟨db, 1, none⟩ = false
  secs : Secs w lb st.safe
  row : w.ownsRow 0 68 33 cv st.cache.length (st.cache.flatMap wrC)
  map : w.ownsMap Try.prog 3 secR mb st.cache.length (mapOf st.cache)
  wf : Wf n st
  n1 : 1 ≤ n
  n2 : n ≤ 512
  lt0 : db < w.heap.size
  lt1 : lb < w.heap.size
  ne1 : db ≠ lb
  ne2 : db ≠ mb
  ne3 : lb ≠ mb
  ne4 : cv.ownBlock ≠ some db
  ne5 : cv.ownBlock ≠ some lb
  ne6 : cv.ownBlock ≠ some mb

theorem rangeAt_of_block' {w w' : World} {b o : Nat} {cs : List Value} (h : w'.heap[b]? = w.heap[b]?) (hr : w.rangeAt b o cs) : w'.rangeAt b o cs := fun j v hv => (World.cell?_of_block (a := ⟨b, o + j, none⟩) h).trans (hr j v hv)
theorem there_of_block' {w w' : World} {b o n : Nat} (h : w'.heap[b]? = w.heap[b]?) (hr : w.there b o n) : w'.there b o n := fun j hj => by
  rw [World.cell?_of_block (a := ⟨b, o + j, none⟩) h, World.frozen?_of_block (a := ⟨b, o + j, none⟩) h]
  exact hr j hj
theorem Secs.kept {w w' : World} {lb : Nat} {s : List (List Int)} (h : Secs w lb s) (hb : w'.heap[lb]? = w.heap[lb]?) : Secs w' lb s := fun i hi => ⟨rangeAt_of_block' hb (h i hi).1, there_of_block' hb (h i hi).2⟩
theorem row_kept {w w' : World} {base : Nat} {e : TypeId} {size : Nat} {v : Value} {n : Nat} {xs : List Value} (h : w.ownsRow base e size v n xs) (hb : ∀ k, v.ownBlock = some k → w'.heap[k]? = w.heap[k]?) : w'.ownsRow base e size v n xs := by
  refine ⟨h.1, ?_⟩
  rcases h.2 with h0 | ⟨g, cap, cur, rfl, h2, h3, h4⟩
  · exact .inl h0
  · exact .inr ⟨g, cap, cur, rfl, h2, (hb g rfl).trans h3, h4⟩
theorem map_kept {w w' : World} {P : Program} {k : TypeId} {R : Value → Option (DataW Unit × List MemPlace)} {b n : Nat} {D : DataW Unit} (h : w.ownsMap P k R b n D) (hb : w'.heap[b]? = w.heap[b]?) : w'.ownsMap P k R b n D := by
  obtain ⟨es, clock, h1, h2⟩ := h
  exact ⟨es, clock, hb.trans h1, h2⟩
theorem DiskIn.kept {w w' : World} {db lb mb : Nat} {cv : Value} {n : Nat} {st : St} (h : DiskIn w db lb mb cv n st) (hs : w.heap.size ≤ w'.heap.size)
    (h0 : w'.heap[db]? = w.heap[db]?) (h1 : w'.heap[lb]? = w.heap[lb]?) (h2 : w'.heap[mb]? = w.heap[mb]?) (h3 : ∀ k, cv.ownBlock = some k → w'.heap[k]? = w.heap[k]?) : DiskIn w' db lb mb cv n st :=
  { c0 := (World.cell?_of_block (a := ⟨db, 0, none⟩) h0).trans h.c0, c1 := (World.cell?_of_block (a := ⟨db, 1, none⟩) h0).trans h.c1, c2 := (World.cell?_of_block (a := ⟨db, 2, none⟩) h0).trans h.c2
    fz := (World.frozen?_of_block (a := ⟨db, 1, none⟩) h0).trans h.fz, secs := h.secs.kept h1, row := row_kept h.row h3, map := map_kept h.map h2, wf := h.wf, n1 := h.n1, n2 := h.n2
    lt0 := Nat.lt_of_lt_of_le h.lt0 hs, lt1 := Nat.lt_of_lt_of_le h.lt1 hs, ne1 := h.ne1, ne2 := h.ne2, ne3 := h.ne3, ne4 := h.ne4, ne5 := h.ne5, ne6 := h.ne6 }
theorem DiskIn.below {w w' : World} {db lb mb : Nat} {cv : Value} {n : Nat} {st : St} (h : DiskIn w db lb mb cv n st) (hb : Below w.heap.size w w') : DiskIn w' db lb mb cv n st :=
  h.kept hb.size (hb.block _ h.lt0) (hb.block _ h.lt1) (hb.block _ h.map.lt) (fun k hk => hb.block k (h.row.lt k hk).2)

/-- A disk at db, all of whose blocks are F. -/
def DiskAt (w : World) (F : Nat → Prop) (db n : Nat) (st : St) : Prop := ∃ lb mb cv, DiskIn w db lb mb cv n st ∧ F db ∧ F lb ∧ F mb ∧ (∀ k, cv.ownBlock = some k → F k) ∧ ∀ k, F k → k < w.heap.size
theorem DiskAt.lt {w : World} {F : Nat → Prop} {db n : Nat} {st : St} (h : DiskAt w F db n st) : ∀ k, F k → k < w.heap.size := by
  obtain ⟨_, _, _, _, _, _, _, _, h⟩ := h; exact h
theorem DiskAt.wf {w : World} {F : Nat → Prop} {db n : Nat} {st : St} (h : DiskAt w F db n st) : Wf n st := by
  obtain ⟨_, _, _, h, _⟩ := h; exact h.wf
theorem DiskAt.n2 {w : World} {F : Nat → Prop} {db n : Nat} {st : St} (h : DiskAt w F db n st) : 1 ≤ n ∧ n ≤ 512 := by
  obtain ⟨_, _, _, h, _⟩ := h; exact ⟨h.n1, h.n2⟩
theorem DiskAt.moves {w w' : World} {F G : Nat → Prop} {db n : Nat} {st : St} (h : DiskAt w F db n st) (hm : Moves G w w') (hd : ∀ k, F k → ¬ G k) : DiskAt w' F db n st := by
  obtain ⟨lb, mb, cv, h, f0, f1, f2, f3, f4⟩ := h
  have hk : ∀ k, F k → w'.heap[k]? = w.heap[k]? := fun k hk => hm.block k (f4 k hk) (hd k hk)
  exact ⟨lb, mb, cv, h.kept hm.size (hk _ f0) (hk _ f1) (hk _ f2) (fun k e => hk k (f3 k e)), f0, f1, f2, f3, fun k e => Nat.lt_of_lt_of_le (f4 k e) hm.size⟩
theorem DiskAt.below {w w' : World} {F : Nat → Prop} {db n : Nat} {st : St} (h : DiskAt w F db n st) (hb : Below w.heap.size w w') : DiskAt w' F db n st :=
  h.moves (moves_of_below (F := fun _ => False) hb) (fun _ _ e => e)
end Go.Proofs.Ytdmkkfpbgpijjaa
namespace Go.Proofs.Ytdmkkfpbgpijjaa
open Go.RowKit Go.Deep Go.Maps

set_option maxRecDepth 100000 in
set_option maxHeartbeats 400000 in
theorem there_any (db lb n : Nat) (i : Int) (w : World) (c0 : w.cell? ⟨db, 0, none⟩ = some (.slice (some ⟨lb, 0, none⟩) n n)) :
    Calls Try.prog 49 #[.pointer (some ⟨db, 0, none⟩), .int .i64 i] w fun e w' => e = .returned (.bool (goodAt n i)) ∧ w = w' := by
  unfold goodAt
  by_cases h0 : 0 ≤ i
  · have h1 : decide (0 ≤ i) = true := by simpa using h0
    rw [h1]
    go_enter Try.func49, Try.ntmps49
    go_wp2
    go_ret
    exact ⟨by simp, rfl⟩
  · have h1 : decide (0 ≤ i) = false := by simpa using h0
    rw [h1]
    go_enter Try.func49, Try.ntmps49
    go_wp2
    go_ret
    exact ⟨by simp, rfl⟩
set_option maxRecDepth 100000 in
set_option maxHeartbeats 400000 in
theorem sectors_any (db lb n : Nat) (w : World) (c0 : w.cell? ⟨db, 0, none⟩ = some (.slice (some ⟨lb, 0, none⟩) n n)) :
    Calls Try.prog 36 #[.pointer (some ⟨db, 0, none⟩)] w fun e w' => e = .returned (.int .i64 n) ∧ w = w' := by
  go_enter Try.func36, Try.ntmps36
  go_wp2
  go_ret
  exact ⟨rfl, rfl⟩
set_option maxRecDepth 100000 in
set_option maxHeartbeats 400000 in
theorem loose_any (db n c : Nat) (A : Option Addr) (w : World) (c0 : w.cell? ⟨db, 1, none⟩ = some (.slice A n c)) :
    Calls Try.prog 19 #[.pointer (some ⟨db, 0, none⟩)] w fun e w' => e = .returned (.int .i64 n) ∧ w = w' := by
  go_enter Try.func19, Try.ntmps19
  go_wp2
  go_ret
  exact ⟨rfl, rfl⟩

def zeros32 : List Int := List.replicate 32 0
def newS (n : Nat) : St := { safe := List.replicate n zeros32, cache := [] }
theorem newS_wf (n : Nat) : Wf n (newS n) := ⟨by simp [newS], fun z hz => by
  have := List.eq_of_mem_replicate hz
  subst this
  rfl, (fun _ hp => by cases hp), (fun _ hp => by cases hp)⟩
theorem made_at (n j : Nat) (hj : j < n * 32) : (madeCells (Array.replicate 32 (Value.int .u8 0)) (n * 32))[j]? = some (.int .u8 0) := by
  have h1 : j % 32 < 32 := Nat.mod_lt _ (by omega)
  simp [madeCells, hj, h1]
theorem secs_made {w : World} {lb n : Nat} {C : Array Value} {t : TypeId} (hb : w.heap[lb]? = some (.cells C t)) (hC : ∀ j, j < n * 32 → C[j]? = some (.int .u8 0)) : Secs w lb (newS n).safe := by
  intro i hi
  simp only [newS, List.length_replicate] at hi
  have hs : secAt (newS n).safe i = zeros32 := by simp [secAt, newS, hi]
  rw [hs]
  refine ⟨fun j v hv => ?_, fun j hj => ?_⟩
  · have hj : j < 32 := by
      rcases Nat.lt_or_ge j 32 with h | h
      · exact h
      · rw [List.getElem?_eq_none (by simpa [secC, zeros32] using h)] at hv; cases hv
    have e : v = .int .u8 0 := by
      have hm := List.mem_of_getElem? hv
      simp only [secC, List.mem_map] at hm
      obtain ⟨z, hz, rfl⟩ := hm
      rw [List.eq_of_mem_replicate hz]
    subst e
    rw [cell_of_row w lb (i * 32 + j) C t _ hb]
    exact hC _ (by omega)
  · have hc : w.cell? ⟨lb, i * 32 + j, none⟩ = some (.int .u8 0) := by rw [cell_of_row w lb (i * 32 + j) C t _ hb]; exact hC _ (by omega)
    refine ⟨by rw [hc]; rfl, ?_⟩
    simp [World.frozen?, hb]
set_option maxRecDepth 100000 in
theorem info_sec : (Try.prog.info? 66).map (fun i => (i.zero, i.size, i.bytes)) = some (some (.agg (Array.replicate 32 (Value.int .u8 0))), 32, 32) := by kernel_rfl

def NewSays (n : Nat) (w : World) (e : Ending) (w' : World) : Prop := ∃ db, e = .returned (.tuple #[.pointer (some ⟨db, 0, none⟩), .int .i64 0]) ∧ DiskAt w' (fun k => w.heap.size ≤ k ∧ k < w'.heap.size) db n (newS n) ∧ Below w.heap.size w w'
theorem diskIn_new (w : World) (n : Nat) (h1 : 1 ≤ n) (h2 : n ≤ 512) (C : Array Value) (hC : ∀ j, j < n * 32 → C[j]? = some (.int .u8 0)) :
    DiskIn (((w.alloc (.cells C 66)).alloc (.map #[] 0)).alloc (.cells #[.slice (some ⟨w.heap.size, 0, none⟩) n n, .slice none 0 0, .map (some (w.heap.size + 1))] 62)) (w.heap.size + 1 + 1) w.heap.size (w.heap.size + 1) (.slice none 0 0) n (newS n) := by
  have e1 : (w.alloc (.cells C 66)).heap.size = w.heap.size + 1 := by simp
  have e2 : ((w.alloc (.cells C 66)).alloc (.map #[] 0)).heap.size = w.heap.size + 1 + 1 := by simp
  generalize hd : (Obj.cells #[.slice (some ⟨w.heap.size, 0, none⟩) n n, .slice none 0 0, .map (some (w.heap.size + 1))] 62) = D
  have b0 : (((w.alloc (.cells C 66)).alloc (.map #[] 0)).alloc D).heap[w.heap.size]? = some (.cells C 66) := by
    rw [Below.heap_alloc _ _ _ (by simp; omega), Below.heap_alloc _ _ _ (by simp), heap_alloc_new]
  have b1 : (((w.alloc (.cells C 66)).alloc (.map #[] 0)).alloc D).heap[w.heap.size + 1]? = some (.map #[] 0) := by
    rw [Below.heap_alloc _ _ _ (by simp), ← e1, heap_alloc_new]
  have b2 : (((w.alloc (.cells C 66)).alloc (.map #[] 0)).alloc D).heap[w.heap.size + 1 + 1]? = some D := by
    rw [← e2, heap_alloc_new]
  have hz : (((w.alloc (.cells C 66)).alloc (.map #[] 0)).alloc D).heap.size = w.heap.size + 3 := by simp
  generalize (((w.alloc (.cells C 66)).alloc (.map #[] 0)).alloc D) = W at *
  subst hd
  refine { c0 := by simp [World.cell?, b2], c1 := by simp [World.cell?, b2], c2 := by simp [World.cell?, b2], fz := by simp [World.frozen?, b2], secs := secs_made b0 hC, row := World.ownsRow_nil _ _ _ _, map := ⟨#[], 0, b1, ⟨by simp, MapKept.stamped_empty 0, by simp⟩, Nat.le_refl _, rfl⟩, wf := newS_wf n, n1 := h1, n2 := h2, lt0 := by omega, lt1 := by omega, ne1 := by omega, ne2 := by omega, ne3 := by omega, ne4 := by simp [Value.ownBlock], ne5 := by simp [Value.ownBlock], ne6 := by simp [Value.ownBlock] }
set_option maxRecDepth 100000 in
set_option maxHeartbeats 1000000 in
theorem new_ok (n : Nat) (w : World) (h1 : 1 ≤ n) (h2 : n ≤ 512) : Calls Try.prog 21 #[.int .i64 n] w (NewSays n w) := by
  obtain ⟨i0, hi, hz0, hz1, hz2⟩ := info_parts info_sec
  have hmk : ∀ w : World, (Instr.makeSlice 58 (.int .i64 (n : Int)) (.int .i64 (n : Int))).run Try.prog w = .ok (.slice (some ⟨w.heap.size, 0, none⟩) n n) (w.alloc (.cells (madeCells (Array.replicate 32 (Value.int .u8 0)) (n * 32)) 66)) := by
    intro w
    have := run_make (P := Try.prog) w 58 66 i0 _ Try.underlying58 hi hz0 .i64 .i64 n n (by omega) (by omega) (by rw [hz2]; omega) (by omega)
    rw [hz1] at this
    simpa [Value.cells] using this
  have hC := Lib.hid (made_at n)
  generalize madeCells (Array.replicate 32 (Value.int .u8 0)) (n * 32) = C at *
  clear hi hz0 hz1 hz2
  have hmm := fun (t : TypeId) (w : World) => run_makeMap (P := Try.prog) t w
  have g1 : (1 : Int) ≤ (n : Int) := by omega
  have g2 : (n : Int) ≤ 512 := by omega
  go_enter Try.func21, Try.ntmps21
  go_wp2
  go_ret2
  refine ⟨_, rfl, ⟨_, _, _, diskIn_new w n h1 h2 C hC.out, ?_, ?_, ?_, ?_, ?_⟩, ?_⟩
  · simp; omega
  · simp; omega
  · simp
  · intro k hk; cases hk
  · intro k hk; exact hk.2
  · exact (((Below.refl _ _).alloc (Nat.le_refl _) _).alloc (by simp) _).alloc (by simp; omega) _
set_option maxRecDepth 100000 in
set_option maxHeartbeats 400000 in
theorem new_no (n : Int) (w : World) (h : n < 1 ∨ 512 < n) : Calls Try.prog 21 #[.int .i64 n] w fun e w' => e = .returned (.tuple #[.pointer none, .int .i64 11]) ∧ w = w' := by
  rcases h with h | h
  · have h1 : decide (n < 1) = true := by simpa using h
    go_enter Try.func21, Try.ntmps21
    go_wp2
    go_ret2
    exact ⟨rfl, rfl⟩
  · have h1 : decide (n < 1) = false := by simp; omega
    have h2 : decide (512 < n) = true := by simpa using h
    go_enter Try.func21, Try.ntmps21
    go_wp2
    go_ret2
    exact ⟨rfl, rfl⟩
end Go.Proofs.Ytdmkkfpbgpijjaa
namespace Go.Proofs.Ytdmkkfpbgpijjaa
open Go.RowKit Go.Deep Go.Maps

theorem there_of_cells {w : World} {b : Nat} {C : Array Value} {t : TypeId} (hb : w.heap[b]? = some (.cells C t)) (n : Nat) (hn : n ≤ C.size) : w.there b 0 n := fun j hj => by
  have hc : w.cell? ⟨b, 0 + j, none⟩ = C[0 + j]? := cell_of_row w b (0 + j) C t _ hb
  refine ⟨by rw [hc]; simp; omega, ?_⟩
  simp [World.frozen?, hb]
/-- A new variable of many cells. -/
theorem wpList_allocT {P : Program} {ops : Array Oper} {rest : List Oper} {o : Oper} {a : Act} {Q : Exit → Act → World → Prop} {W : World} (hgd : o.guard = none) (ty : TypeId) (ho : o.op = .alloc ty) (Z : Array Value) (n : Nat) (hZ : Z.size = n)
    (hz : (P.info? ty).map (fun i => (i.zero, i.size)) = some (some (.agg Z), n))
    (h : ∀ W1 : World, W1.heap.size = W.heap.size + 1 → Below W.heap.size W W1 → W1.there W.heap.size 0 n → wpList P ops Q rest (a.put o.dst (.pointer (some ⟨W.heap.size, 0, none⟩))) W1) : wpList P ops Q (o :: rest) a W := by
  obtain ⟨z1, _⟩ := zero_of_info hz
  refine wpList_plain hgd fun K hK => ?_
  unfold Oper.wp
  simp [execOp, ho, Instr.alloc, z1 W, newVar, Value.cells, Result.andThen]
  refine hK _ _ (h _ (by simp) ((Below.refl _ _).alloc (Nat.le_refl _) _) ?_)
  exact there_of_cells (heap_alloc_new W _) n (by omega)
/-- A store of many cells. -/
theorem wpList_storeT {P : Program} {ops : Array Oper} {rest : List Oper} {o : Oper} {a : Act} {Q : Exit → Act → World → Prop} {W : World} (hgd : o.guard = none) (ty : TypeId) (x y : Operand) (ho : o.op = .store ty x y)
    (b f : Nat) (cs : List Value) (hx : a.eval x = .pointer (some ⟨b, f, none⟩)) (hy : a.eval y = .agg cs.toArray) (ht : W.there b f cs.length) (hi : (P.info? ty).map (·.size) = some cs.length) (h1 : ∀ v ∈ cs, v.oneCell' = true)
    (h : ∀ W2 : World, Hid (W2 = W.setCells b f cs) → wpList P ops Q rest (a.put o.dst undef) W2) : wpList P ops Q (o :: rest) a W :=
  wpList_store_mid hgd ty x y ho b f cs.toArray hx hy (by simpa using ht) (by simpa using hi) (all_oneCell_toArray h1) (h _ (Lib.hid rfl))

theorem moves_store {W W2 : World} {b f : Nat} {cs : List Value} (h : Hid (W2 = W.setCells b f cs)) : Moves (· = b) W W2 := by
  rw [h.out]; exact moves_setCells (· = b) b rfl cs f W
theorem size_store {W W2 : World} {b f : Nat} {cs : List Value} (h : Hid (W2 = W.setCells b f cs)) : W2.heap.size = W.heap.size := by
  have e := h.out
  clear h
  subst e
  induction cs generalizing f W with
  | nil => rfl
  | cons v cs ih =>
    show ((W.setCell ⟨b, f, none⟩ v).setCells b (f + 1) cs).heap.size = _
    rw [ih]
    simp
theorem below_store {W W2 : World} {b f B : Nat} {cs : List Value} (h : Hid (W2 = W.setCells b f cs)) (hB : B ≤ W.heap.size) (hb : B ≤ b) : Below B W W2 := (moves_store h).below hB (fun _ e => by subst e; exact hb)
theorem range_store {W W2 : World} {b f : Nat} {cs : List Value} (h : Hid (W2 = W.setCells b f cs)) (ht : W.there b f cs.length) : W2.rangeAt b f cs := by
  rw [h.out]; exact World.rangeAt_setCells_same W b f cs ht
theorem there_store {W W2 : World} {b f b' f' n : Nat} {cs : List Value} (h : Hid (W2 = W.setCells b f cs)) (ht : W.there b' f' n) : W2.there b' f' n := by
  rw [h.out]; exact World.there_setCells ht b f cs
theorem range_store_apart {W W2 : World} {b f b' f' : Nat} {cs cs' : List Value} (h : Hid (W2 = W.setCells b f cs)) (hr : W.rangeAt b' f' cs') (hap : b' ≠ b ∨ f' + cs'.length ≤ f ∨ f + cs.length ≤ f') : W2.rangeAt b' f' cs' := by
  rw [h.out]; exact World.rangeAt_setCells_apart hr b f cs hap

set_option maxRecDepth 100000 in
theorem info_sec2 : (Try.prog.info? 66).map (fun i => (i.zero, i.size)) = some (some (.agg (Array.replicate 32 (Value.int .u8 0))), 32) := by kernel_rfl
set_option maxRecDepth 100000 in
theorem size_sec : (Try.prog.info? 66).map (·.size) = some 32 := by kernel_rfl
theorem zero_sec (w : World) : (zeroValue 66).run Try.prog w = .ok (.agg (secC zeros32).toArray) w := by
  have := (zero_of_info info_sec2).1 w
  rw [this]; rfl
theorem intK : Keyed Try.prog 3 := int_keyed Try.underlying3
theorem keyI (i : Nat) (h : i ≤ 512) : keyOf Try.prog 3 (.int .i64 i) = some (keyL i) := keyOf_int_mk Try.underlying3 (WalkArith.wf_i64 (by omega))

/-- 'v, ok := m[k]' on sectors: the value's shape written out. -/
theorem wpList_lookup_sec {ops : Array Oper} {rest : List Oper} {o : Oper} {a : Act} {Q : Exit → Act → World → Prop} {W : World} (hg : o.guard = none) (m x : Operand) (hop : o.op = Op.lookup 60 m x true)
    (mb n i : Nat) (ws : List (Nat × List Int)) (hm : a.eval m = .map (some mb)) (hown : W.ownsMap Try.prog 3 secR mb n (mapOf ws)) (hx : a.eval x = .int .i64 i) (hi : i ≤ 512)
    (hK : ∀ zs, zs = (lastIn i ws).getD zeros32 → wpList Try.prog ops Q rest (a.put o.dst (.tuple #[.agg (secC zs).toArray, .bool (lastIn i ws).isSome])) W) : wpList Try.prog ops Q (o :: rest) a W :=
  wpList_lookup_own_ok W hg m x 60 hop 3 66 intK Try.underlying60 secR (zero_sec W) (secD zeros32) [] (secR_mk zeros32) mb n (mapOf ws) hm hown _ (keyL i) hx (keyI i hi) (fun v ps hv => by
    rw [(mapOf_says i ws (secD zeros32)).1]
    rw [(mapOf_says i ws (secD zeros32)).2] at hv
    have e : ((lastIn i ws).map secD).getD (secD zeros32) = secD ((lastIn i ws).getD zeros32) := by cases lastIn i ws <;> rfl
    rw [e] at hv
    rw [secR_inv hv]
    exact hK _ rfl)
theorem wpList_lookup_none {ops : Array Oper} {rest : List Oper} {o : Oper} {a : Act} {Q : Exit → Act → World → Prop} {W : World} (hg : o.guard = none) (m x : Operand) (hop : o.op = Op.lookup 60 m x true)
    (mb n i : Nat) (ws : List (Nat × List Int)) (hm : a.eval m = .map (some mb)) (hown : W.ownsMap Try.prog 3 secR mb n (mapOf ws)) (hx : a.eval x = .int .i64 i) (hi : i ≤ 512) (hl : lastIn i ws = none)
    (hK : ∀ zs : List Int, Hid (zs.length = 32) → wpList Try.prog ops Q rest (a.put o.dst (.tuple #[.agg (secC zs).toArray, .bool false])) W) : wpList Try.prog ops Q (o :: rest) a W :=
  wpList_lookup_sec hg m x hop mb n i ws hm hown hx hi (by
    rw [hl]
    intro zs hz
    subst hz
    exact hK _ (Lib.hid rfl))
/-- 'clear(m)'. -/
theorem wpList_clear_own {P : Program} {ops : Array Oper} {rest : List Oper} {o : Oper} {a : Act} {Q : Exit → Act → World → Prop} {W : World} (hg : o.guard = none) (m : Operand) (t : TypeId) (hop : o.op = Op.call { callee := Callee.builtin Builtin.clear, args := #[m], argTypes := #[t] })
    (k e : TypeId) (ht : P.underlying t = some (.map k e)) (R : Value → Option (DataW Unit × List MemPlace)) (mb n : Nat) (D : DataW Unit) (hm : a.eval m = .map (some mb)) (hown : W.ownsMap P k R mb n D)
    (hK : ∀ W2 : World, W2.ownsMap P k R mb 0 (.map []) → Moves (· = mb) W W2 → wpList P ops Q rest (a.put o.dst (.tuple #[])) W2) : wpList P ops Q (o :: rest) a W := by
  obtain ⟨es, clock, hb, F, hs, rfl⟩ := hown
  have hrun : (Builtin.clear_ #[t] o.type #[.map (some mb)]).run P W = .ok (.tuple #[]) (ChangeMaps.setBlock W mb (.map #[] clock)) := by
    simp [Builtin.clear_, run_underlying ht, MapKept.run_getObj_map hb, MapKept.run_setObj_map _ hb, Result.andThen, ChangeMaps.setBlock]
  refine wpList_plain hg fun K' hK' => ?_
  unfold Oper.wp
  simp [execOp, hop, resolve, invoke, builtin, hm, hrun, Result.andThen]
  refine hK' _ _ (hK _ ⟨#[], clock, ChangeMaps.heap_setBlock_same hb _, ⟨by simp, MapKept.stamped_empty clock, by simp⟩, Nat.le_refl _, rfl⟩ ⟨rfl, rfl, rfl, by simp [ChangeMaps.setBlock], fun i _ hi => ChangeMaps.heap_setBlock_other hb _ hi⟩)
end Go.Proofs.Ytdmkkfpbgpijjaa
namespace Go.Proofs.Ytdmkkfpbgpijjaa
open Go.RowKit Go.Deep Go.Maps

/-- A call that answers a sector's bytes in new memory. -/
def ReadSays (zs : List Int) (w : World) (e : Ending) (w' : World) : Prop := ∃ b, e = .returned (.tuple #[.slice (some ⟨b, 0, none⟩) 32 32, .int .i64 0]) ∧ w'.rangeAt b 0 (secC zs) ∧ w.heap.size ≤ b ∧ b < w'.heap.size ∧ Below w.heap.size w w'
set_option maxRecDepth 100000 in
set_option maxHeartbeats 1000000 in
theorem read_ok (db lb mb : Nat) (cv : Value) (n i : Nat) (st : St) (zs : List Int) (hz : nowAt st i = zs) (w : World) (h : DiskIn w db lb mb cv n st) (hi : i < n) :
    Calls Try.prog 39 #[.pointer (some ⟨db, 0, none⟩), .int .i64 i] w (ReadSays zs w) := by
  have c0 := h.c0
  have c2 := h.c2
  have hg : goodAt n i = true := by unfold goodAt; simp; omega
  have hn2 := h.n2
  have hown := h.map
  cases hl : lastIn i st.cache with
  | some ys =>
    have hy := h.wf.has _ (lastIn_mem i _ _ hl)
    have hzs : ys = zs := by
      rw [← hz]; unfold nowAt nows; rw [carry_at _ _ _ (by rw [h.wf.len]; exact hi), hl]; rfl
    subst hzs
    have HL := Lib.hid hl
    have HG := Lib.hid hg
    have HZ := Lib.hid hz
    clear hl hg hz
    go_enter Try.func39, Try.ntmps39
    go_wp2_with fail
    refine (there_any db lb n i _ c0).mono ?_
    rintro e w' ⟨rfl, rfl⟩
    rw [HG.out]
    have hy' : (secC ys).length = 32 := by rw [secC_len]; exact hy
    have HY := Lib.hid hy'
    clear hy hy'
    go_wp2_with (first | (at_lookup; refine wpList_lookup_sec rfl _ _ rfl mb _ i _ rfl hown rfl (by omega) ?_; rw [HL.out]; intro zs1 hzs1; obtain rfl := hzs1) | (refine wpList_allocT rfl 66 rfl _ 32 (by simp) info_sec2 ?_; intro W1 e1 b1 t1; have T1 := Lib.hid t1; have E1 := Lib.hid e1; clear t1 e1) | (refine wpList_storeT rfl 66 _ _ rfl _ _ (secC zs1) rfl rfl (by rw [HY.out]; exact T1.out) (by rw [HY.out]; exact size_sec) (secC_one _) ?_; intro W2 e2))
    go_ret2
    have hs := size_store e2
    have hs1 := E1.out
    refine ⟨w.heap.size, rfl, range_store e2 (by rw [HY.out]; exact T1.out), Nat.le_refl _, by omega, b1.trans (below_store e2 (by omega) (Nat.le_refl _))⟩
  | none =>
    have hsec := h.secs i (by rw [h.wf.len]; exact hi)
    have hzs : secAt st.safe i = zs := by
      rw [← hz]; unfold nowAt nows; rw [carry_at _ _ _ (by rw [h.wf.len]; exact hi), hl]; rfl
    have hy' : (secC zs).length = 32 := by rw [secC_len, ← hz]; exact h.wf.now_len hi
    rw [hzs] at hsec
    have HY := Lib.hid hy'
    have HL := Lib.hid hl
    have HG := Lib.hid hg
    have hR := Lib.hid hsec.1
    have hlt : (i : Int) < (n : Int) := by omega
    have hlt1 := h.lt1
    have hlt0 := h.lt0
    clear hl hg hz hy' hzs hsec
    go_enter Try.func39, Try.ntmps39
    go_wp2_with fail
    refine (there_any db lb n i _ c0).mono ?_
    rintro e w' ⟨rfl, rfl⟩
    rw [HG.out]
    go_wp2_with (first | (at_lookup; refine wpList_lookup_none rfl _ _ rfl mb _ i _ rfl hown rfl (by omega) HL.out ?_; intro ys hys; have HZ := Lib.hid ((secC_len ys).trans hys.out)) | (refine wpList_allocT rfl 66 rfl _ 32 (by simp) info_sec2 ?_; intro W1 e1 b1 t1; have T1 := Lib.hid t1; have E1 := Lib.hid e1; clear t1 e1) | (refine wpList_storeT rfl 66 _ (.tmp 19) rfl _ _ (secC ys) rfl rfl (by rw [HZ.out]; exact T1.out) (by rw [HZ.out]; exact size_sec) (secC_one _) ?_; intro W2 e2; have b2 := Lib.hid (b1.trans (below_store e2 (by have := E1.out; omega) (Nat.le_refl _))); have c0b : W2.cell? ⟨db, 0, none⟩ = some (.slice (some ⟨lb, 0, none⟩) n n) := (b2.out.cell (p := ⟨db, 0, none⟩) hlt0).trans c0) | (refine wpList_load_mid rfl 66 (.tmp 28) rfl lb (i * 32) rfl (secC zs) _ (rangeAt_of_block' (b2.out.block _ hlt1) hR.out) Try.underlying66 rfl (by rw [HY.out]; exact size_sec) ?_) | (refine wpList_storeT rfl 66 _ (.tmp 29) rfl _ _ (secC zs) rfl rfl (by rw [HY.out]; exact there_store e2 T1.out) (by rw [HY.out]; exact size_sec) (secC_one _) ?_; intro W3 e3))
    go_ret2
    have hs := size_store e2
    have hs3 := size_store e3
    have hs1 := E1.out
    refine ⟨w.heap.size, rfl, range_store e3 (by rw [HY.out]; exact there_store e2 T1.out), Nat.le_refl _, by omega, b2.out.trans (below_store e3 (by omega) (Nat.le_refl _))⟩
set_option maxRecDepth 100000 in
set_option maxHeartbeats 400000 in
theorem read_no (db lb mb : Nat) (cv : Value) (n : Nat) (i : Int) (st : St) (w : World) (h : DiskIn w db lb mb cv n st) (hg : goodAt n i = false) :
    Calls Try.prog 39 #[.pointer (some ⟨db, 0, none⟩), .int .i64 i] w fun e w' => e = .returned (.tuple #[.slice none 0 0, .int .i64 11]) ∧ w = w' := by
  have c0 := h.c0
  have HG := Lib.hid hg
  clear hg
  go_enter Try.func39, Try.ntmps39
  go_wp2_with fail
  refine (there_any db lb n i _ c0).mono ?_
  rintro e w' ⟨rfl, rfl⟩
  rw [HG.out]
  go_wp2
  go_ret2
  exact ⟨rfl, rfl⟩

theorem good_of_range {b : Nat} {zs : List Int} {w : World} (h : w.rangeAt b 0 (secC zs)) (hb : b < w.heap.size) (n : Nat) (hn : zs.length ≤ n) : Good (some ⟨b, 0, none⟩) n zs w :=
  ⟨fun _ => ⟨b, 0, rfl, hb, fun j hj => h j _ (by simp [secC, hj])⟩, hn, fun e => by cases e⟩
end Go.Proofs.Ytdmkkfpbgpijjaa
namespace Go.Proofs.Ytdmkkfpbgpijjaa
open Go.RowKit Go.Deep Go.Maps

set_option maxRecDepth 100000 in
theorem info_wr2 : (Try.prog.info? 68).map (fun i => (i.zero, i.size)) = some (some (.agg (#[Value.int .i64 0] ++ Array.replicate 32 (Value.int .u8 0))), 33) := by kernel_rfl
set_option maxRecDepth 100000 in
theorem size_wr : (Try.prog.info? 68).map (·.size) = some 33 := by kernel_rfl

theorem wrC_len (p : Nat × List Int) (h : p.2.length = 32) : (wrC p).length = 33 := by simp [wrC, secC_len, h]
/-- The cells of the j-th write in the cache. -/
theorem row_range {w : World} {cv : Value} {g : Nat} {ws : List (Nat × List Int)} (h : w.ownsRow 0 68 33 cv ws.length (ws.flatMap wrC)) (hg : cv.ownBlock = some g) (hl : ∀ p ∈ ws, p.2.length = 32) {j : Nat} {p : Nat × List Int} (hj : ws[j]? = some p) :
    w.rangeAt g (j * 33) (wrC p) := fun k v hv => by
  have hp := wrC_len p (hl p (List.mem_of_getElem? hj))
  have hk : k < 33 := by
    rcases Nat.lt_or_ge k 33 with h | h
    · exact h
    · rw [List.getElem?_eq_none (by omega)] at hv; cases hv
  have := h.cells hg (j * 33 + k) v (by rw [flatD_at wrC 33 ws (fun x hx => wrC_len x (hl x hx)) j p hj k hk]; exact hv)
  rwa [Go.WideShapes.add_plain, Nat.zero_add] at this
theorem cell_apart {W : World} {b o b' f : Nat} {vs : List Value} (hne : b' ≠ b) : (W.setCells b o vs).cell? ⟨b', f, none⟩ = W.cell? ⟨b', f, none⟩ := World.cell?_setCells_out b vs o W ⟨b', f, none⟩ (fun e => absurd e hne)
theorem setCells_drew (b : Nat) : ∀ (vs : List Value) (o : Nat) (w : World), w.drew.setCells b o vs = (w.setCells b o vs).drew
  | [], _, _ => rfl
  | v :: vs, o, w => setCells_drew b vs (o + 1) (w.setCell ⟨b, o, none⟩ v)
/-- A sector is written. -/
theorem Secs.set {W W2 : World} {lb n : Nat} {s : List (List Int)} {i : Nat} {zs : List Int} (h : Secs W lb s) (hl : s.length = n) (hs : ∀ z ∈ s, z.length = 32) (hz : zs.length = 32) (e : Hid (W2 = W.setCells lb (i * 32) (secC zs))) : Secs W2 lb (s.set i zs) := by
  intro k hk
  rw [List.length_set] at hk
  rw [secAt_set _ _ _ _ hk]
  by_cases he : i = k
  · subst he
    rw [if_pos rfl]
    exact ⟨range_store e (by rw [secC_len, hz]; exact (h i hk).2), there_store e (h i hk).2⟩
  · rw [if_neg he]
    have h1 := secAt_len hl hs (by omega : k < n)
    exact ⟨range_store_apart e (h k hk).1 (.inr (by rw [secC_len, secC_len, h1, hz]; omega)), there_store e (h k hk).2⟩
set_option maxRecDepth 100000 in
/-- Behind a write of one sector that lasts. -/
theorem DiskIn.stored {W W2 : World} {db lb mb : Nat} {cv : Value} {n : Nat} {st : St} {i : Nat} {zs : List Int} (h : DiskIn W db lb mb cv n st) (hz : zs.length = 32) (e : Hid (W2 = W.setCells lb (i * 32) (secC zs))) : DiskIn W2 db lb mb cv n { st with safe := st.safe.set i zs } := by
  have hm := moves_store e
  have hb : ∀ k, k < W.heap.size → k ≠ lb → W2.heap[k]? = W.heap[k]? := fun k hk hn => hm.block k hk hn
  have h0 := hb db h.lt0 h.ne1
  exact { c0 := (World.cell?_of_block (a := ⟨db, 0, none⟩) h0).trans h.c0, c1 := (World.cell?_of_block (a := ⟨db, 1, none⟩) h0).trans h.c1, c2 := (World.cell?_of_block (a := ⟨db, 2, none⟩) h0).trans h.c2, fz := (World.frozen?_of_block (a := ⟨db, 1, none⟩) h0).trans h.fz
          secs := h.secs.set h.wf.len h.wf.secs hz e, row := row_kept h.row (fun k hk => hb k (h.row.lt k hk).2 (fun x => h.ne5 (x ▸ hk))), map := map_kept h.map (hb mb h.map.lt (Ne.symm h.ne3))
          wf := ⟨by simpa using h.wf.len, fun z hz' => by
            rcases List.mem_or_eq_of_mem_set hz' with h1 | h1
            · exact h.wf.secs z h1
            · rw [h1]; exact hz, h.wf.at_, h.wf.has⟩
          n1 := h.n1, n2 := h.n2, lt0 := by rw [size_store e]; exact h.lt0, lt1 := by rw [size_store e]; exact h.lt1, ne1 := h.ne1, ne2 := h.ne2, ne3 := h.ne3, ne4 := h.ne4, ne5 := h.ne5, ne6 := h.ne6 }

attribute [local go_sem ↓] Go.wp_at_zero Go.wp_at_succ
def CarrySays (db lb mb : Nat) (cv : Value) (n : Nat) (st : St) (w : World) (e : Ending) (w' : World) : Prop := e = .returned (.tuple #[]) ∧ DiskIn w' db lb mb cv n st ∧ Moves (· = lb) w w'
set_option maxRecDepth 100000 in
set_option maxHeartbeats 1000000 in
theorem carry_any (db lb mb : Nat) (cv : Value) (n : Nat) (st : St) (A : Option Addr) (l c : Nat) (w : World) (h : DiskIn w db lb mb cv n st) (hcv : ∃ L C, cv = .slice A L C) (hl : l ≤ st.cache.length) (hl2 : l ≤ 1000) :
    Calls Try.prog 26 #[.pointer (some ⟨db, 0, none⟩), .slice A l c] w (CarrySays db lb mb cv n { st with safe := carry st.safe (st.cache.take l) } w) := by
  go_enter Try.func26, Try.ntmps26
  go_wp2
  go_loopw [8] (fun k wr => ∃ j : Nat, j ≤ l ∧ k = .int .i64 j ∧ DiskIn wr db lb mb cv n { st with safe := carry st.safe (st.cache.take j) } ∧ Moves (· = lb) w wr) (fun k _ => l - (intOf k).toNat)
  case atStart => exact ⟨0, by omega, rfl, h, Moves.refl _ _⟩
  case round =>
    obtain ⟨j, hj, rfl, hd, hm⟩ := hrel
    by_cases hlt : j < l
    · have hjc : j < st.cache.length := by omega
      have hp : st.cache[j]? = some st.cache[j] := List.getElem?_eq_getElem hjc
      have hmem := List.mem_of_getElem? hp
      have hta := Lib.hid (List.take_succ_eq_append_getElem hjc)
      generalize st.cache[j] = p at *
      have hp1 := h.wf.at_ p hmem
      have hp2 := h.wf.has p hmem
      obtain ⟨L, C, rfl⟩ := hcv
      have hdr := hd.row
      obtain ⟨cb, cap, hv, _, hcl⟩ := hdr.form (by show 0 < st.cache.length; omega)
      obtain rfl : A = some ⟨cb, 0, none⟩ := by injection hv
      have hR := Lib.hid (row_range hdr rfl hd.wf.has hp)
      have hc33 := Lib.hid (wrC_len p hp2)
      have hc32 := Lib.hid ((secC_len p.2).trans hp2)
      have hlt' : (j : Int) < (l : Int) := by omega
      clear hmem hp hv hdr
      have HP2 := Lib.hid hp2
      clear hp2
      go_wp2_with (first | (refine wpList_load_mid rfl 68 (.tmp 10) rfl cb (j * 33) rfl (wrC p) _ hR.out Try.underlying68 rfl (by rw [hc33.out]; exact size_wr) ?_) | (refine wpList_allocT rfl 68 rfl _ 33 (by simp) info_wr2 ?_; intro W1 e1 b1 t1; have T1 := Lib.hid t1; have E1 := Lib.hid e1; clear t1 e1) | (refine wpList_storeT rfl 68 _ (.tmp 11) rfl _ _ (wrC p) rfl rfl (by rw [hc33.out]; exact T1.out) (by rw [hc33.out]; exact size_wr) (wrC_one _) ?_; intro W2 e2))
      have hs2 := size_store e2
      have hs1 := E1.out
      have hW2 : Below wr.heap.size wr W2 := b1.trans (below_store e2 (by omega) (Nat.le_refl _))
      have hd2 := hd.below hW2
      have hr2 := range_store e2 (by rw [hc33.out]; exact T1.out)
      obtain ⟨pi, pz⟩ := p
      have k0 : W2.cell? ⟨db, 0, none⟩ = some (.slice (some ⟨lb, 0, none⟩) n n) := hd2.c0
      have k1 : W2.cell? ⟨wr.heap.size, 0, none⟩ = some (.int .i64 pi) := hr2 0 _ rfl
      have k2 : W2.rangeAt wr.heap.size 1 (secC pz) := fun q v hv => by
        have := hr2 (q + 1) v (by simpa [wrC] using hv)
        rwa [show 0 + (q + 1) = 1 + q by omega] at this
      have k3 : W2.there lb (pi * 32) 32 := (hd2.secs pi (by rw [hd2.wf.len]; exact hp1)).2
      have HD2 := Lib.hid hd2
      have HM := Lib.hid hm
      have HB := Lib.hid hW2
      have hcs := hc32.out
      have hu := Try.underlying66
      have hi : (Try.prog.info? 66).map (·.size) = some (secC pz).length := by rw [hcs]; exact size_sec
      have hone := secC_one pz
      have hset := Lib.hid (fun W3 (e : Hid (W3 = W2.setCells lb (pi * 32) (secC pz))) => (hd2.stored HP2.out e).below (below_drewN (Below.refl _ _) 1))
      have hmv := Lib.hid (fun W3 (e : Hid (W3 = W2.setCells lb (pi * 32) (secC pz))) => (((hm.trans (moves_of_below (F := (· = lb)) hW2) (fun _ x => .inl x)).trans (moves_store e) (fun _ x => .inl x)).trans (moves_drewN (· = lb) W3 1) (fun _ x => .inl x)))
      have hpi0 : (0 : Int) ≤ (pi : Int) := by omega
      have hpi1 : (pi : Int) < (n : Int) := by omega
      have hne0 : db ≠ lb := h.ne1
      have hne1 : wr.heap.size ≠ lb := by have := hd.lt1; omega
      generalize wr.heap.size = nb at *
      clear hr2 hd2 hs1 hs2 e2 hm hW2 b1 T1 E1 hd h hR
      generalize secC pz = cs at *
      go_region_held3 (fun w' => w'.cell? ⟨db, 0, none⟩ = some (.slice (some ⟨lb, 0, none⟩) n n) ∧ w'.cell? ⟨nb, 0, none⟩ = some (.int .i64 (pi : Int)) ∧ w'.rangeAt nb 1 cs ∧ w'.there lb (pi * 32) 32) (first | go_keep_ranges | (go_split_ands; refine ⟨(cell_apart hne0).trans (by assumption), (cell_apart hne1).trans (by assumption), World.rangeAt_setCells_apart (by assumption) _ _ _ (.inl hne1), World.there_setCells (by assumption) _ _ _⟩)) (fail)
      rw [setCells_drew]
      have hh := hset.out _ (Lib.hid rfl)
      have hmm := hmv.out _ (Lib.hid rfl)
      clear hset hmv HD2 HM HB k0 k1 k2 k3 hi hone hcs hc32
      change DiskIn (W2.setCells lb (pi * 32) cs).drew _ _ _ _ _ _ at hh
      change Moves _ w (W2.setCells lb (pi * 32) cs).drew at hmm
      generalize (W2.setCells lb (pi * 32) cs).drew = W3 at hh hmm ⊢
      go_wp2
      go_roundw
      case rel =>
        refine ⟨j + 1, by omega, by go_num, ?_, hmm⟩
        rw [hta.out, carry_snoc]
        exact hh
      case measure => simp [intOf]; omega
    · obtain rfl : j = l := by omega
      go_wp2
      go_end0
      exact ⟨rfl, hd, hm⟩
def EmptySays (db lb mb n : Nat) (st : St) (w : World) (e : Ending) (w' : World) : Prop := e = .returned (.tuple #[]) ∧ DiskIn w' db lb mb (.slice none 0 0) n { st with cache := [] } ∧ Moves (fun k => k = db ∨ k = mb) w w'
theorem DiskIn.emptied {w W1 W2 : World} {db lb mb : Nat} {cv : Value} {n : Nat} {st : St} (h : DiskIn w db lb mb cv n st) (e1 : W1 = w.setCell ⟨db, 1, none⟩ (.slice none 0 0)) (h2 : W2.ownsMap Try.prog 3 secR mb 0 (.map [])) (hm : Moves (· = mb) W1 W2) :
    DiskIn W2 db lb mb (.slice none 0 0) n { st with cache := [] } ∧ Moves (fun k => k = db ∨ k = mb) w W2 := by
  have m1 : Moves (· = db) w W1 := by rw [e1]; exact moves_setCell _ _ _ _ rfl
  have hs1 : W1.heap.size = w.heap.size := by rw [e1]; simp
  have hd : W2.heap[db]? = W1.heap[db]? := hm.block db (by rw [hs1]; exact h.lt0) h.ne2
  have hl : W2.heap[lb]? = w.heap[lb]? := (hm.block lb (by rw [hs1]; exact h.lt1) h.ne3).trans (m1.block lb h.lt1 (Ne.symm h.ne1))
  have k1 : W1.cell? ⟨db, 1, none⟩ = some (.slice none 0 0) := by rw [e1]; exact World.cell?_setCell_same _ _ _ h.c1
  have k0 : W1.cell? ⟨db, 0, none⟩ = w.cell? ⟨db, 0, none⟩ := by rw [e1]; exact World.cell?_setCell_other _ _ _ _ (by simp)
  have k2 : W1.cell? ⟨db, 2, none⟩ = w.cell? ⟨db, 2, none⟩ := by rw [e1]; exact World.cell?_setCell_other _ _ _ _ (by simp)
  have kf : W1.frozen? ⟨db, 1, none⟩ = w.frozen? ⟨db, 1, none⟩ := by rw [e1]; exact World.frozen?_setCell _ _ _ _
  refine ⟨?_, (m1.mono (fun _ e => .inl e)).trans hm (fun _ e => .inl (.inr e))⟩
  exact { c0 := ((World.cell?_of_block (a := ⟨db, 0, none⟩) hd).trans k0).trans h.c0, c1 := (World.cell?_of_block (a := ⟨db, 1, none⟩) hd).trans k1, c2 := ((World.cell?_of_block (a := ⟨db, 2, none⟩) hd).trans k2).trans h.c2, fz := ((World.frozen?_of_block (a := ⟨db, 1, none⟩) hd).trans kf).trans h.fz
          secs := h.secs.kept hl, row := World.ownsRow_nil _ _ _ _, map := h2, wf := h.wf.empty, n1 := h.n1, n2 := h.n2, lt0 := Nat.lt_of_lt_of_le h.lt0 (by have := hm.size; omega), lt1 := Nat.lt_of_lt_of_le h.lt1 (by have := hm.size; omega)
          ne1 := h.ne1, ne2 := h.ne2, ne3 := h.ne3, ne4 := by simp [Value.ownBlock], ne5 := by simp [Value.ownBlock], ne6 := by simp [Value.ownBlock] }
set_option maxRecDepth 100000 in
set_option maxHeartbeats 1000000 in
theorem empty_any (db lb mb : Nat) (cv : Value) (n : Nat) (st : St) (w : World) (h : DiskIn w db lb mb cv n st) :
    Calls Try.prog 28 #[.pointer (some ⟨db, 0, none⟩)] w (EmptySays db lb mb n st w) := by
  have c1 := h.c1
  have c2 := h.c2
  have fz := h.fz
  have hmap := Lib.hid (h.map.setCell (a := ⟨db, 1, none⟩) (Ne.symm h.ne2) (.slice none 0 0))
  go_enter Try.func28, Try.ntmps28
  go_wp2_with (first | (refine wpList_clear_own rfl _ 60 rfl 3 66 Try.underlying60 secR mb _ _ rfl hmap.out ?_; intro W2 o2 m2; have H := Lib.hid (h.emptied rfl o2 m2)))
  go_end0
  exact ⟨rfl, H.out⟩
end Go.Proofs.Ytdmkkfpbgpijjaa
namespace Go.Proofs.Ytdmkkfpbgpijjaa
open Go.RowKit Go.Deep Go.Maps
attribute [local go_sem ↓] Go.wp_at_zero Go.wp_at_succ

theorem step_copyT {P : Program} {ops : Array Oper} {o : Oper} {a : Act} {w : World} {K : Act → World → Prop} {Q : Exit → Act → World → Prop} {E : Prop} (hgd : o.guard = none) (d s : Operand) (dT sT : TypeId)
    (ho : o.op = .call { callee := .builtin .copy, args := #[d, s], argTypes := #[dT, sT] }) (elem : TypeId) (hu : P.underlying dT = some (.slice elem)) (hsz : (P.info? elem).map (·.size) = some 1)
    (b f dLen dCap sb sf sLen sCap : Nat) (hd : a.eval d = .slice (some ⟨b, f, none⟩) dLen dCap) (hs : a.eval s = .slice (some ⟨sb, sf, none⟩) sLen sCap) (cs : List Value) (hn : cs.length = Nat.min sLen dLen)
    (hsrc : w.rangeAt sb sf cs) (ht : w.there b f cs.length) (h1 : ∀ v ∈ cs, v.oneCell' = true)
    (h : ∀ w2, Hid (w2 = w.setCells b f cs) → K (a.put o.dst (goInt cs.length)) w2) :
    if Region.wanted o (yielded ops a.tmps) = true then Oper.wp P o a w K Q else E := by
  have hw : Region.wanted o (yielded ops a.tmps) = true := by simp [Region.wanted, hgd]
  rw [if_pos hw]
  have hrun := run_copy_cells (P := P) w dT sT o.type elem b f dLen dCap ⟨sb, sf, none⟩ sLen sCap cs hu hsz hn (fun j v hv => by rw [Addr.add_mid]; exact hsrc j v hv) (fun j hj => (ht j hj).1) (fun j hj => (ht j hj).2) h1
  unfold Oper.wp
  simp [execOp, ho, resolve, invoke, builtin, hd, hs, hrun, Result.andThen]
  exact h _ (Lib.hid rfl)

theorem secC_append (a b : List Int) : secC (a ++ b) = secC a ++ secC b := by simp [secC]
/-- A sector is written, but for its end. -/
theorem Secs.torn {W W2 : World} {lb n : Nat} {s : List (List Int)} {i t : Nat} {zs : List Int} (h : Secs W lb s) (hl : s.length = n) (hs : ∀ z ∈ s, z.length = 32) (hz : zs.length = 32) (ht : t ≤ 31) (e : Hid (W2 = W.setCells lb (i * 32) (secC (zs.take t)))) : Secs W2 lb (tornS s (i, zs) t) := by
  intro k hk
  unfold tornS at hk ⊢
  rw [List.length_set] at hk
  rw [secAt_set _ _ _ _ hk]
  have hzt : (secC (zs.take t)).length = t := by rw [secC_len, List.length_take]; omega
  by_cases he : i = k
  · subst he
    rw [if_pos rfl]
    refine ⟨?_, there_store e (h i hk).2⟩
    have hr := range_store e (by rw [hzt]; exact fun j hj => (h i hk).2 j (by omega))
    intro j v hv
    show W2.cell? ⟨lb, i * 32 + j, none⟩ = some v
    rw [secC_append] at hv
    rcases Nat.lt_or_ge j t with hj | hj
    · rw [List.getElem?_append_left (by rw [hzt]; exact hj)] at hv
      exact hr j v hv
    · rw [List.getElem?_append_right (by rw [hzt]; exact hj), hzt] at hv
      have e2 : (secC ((secAt s i).drop t))[j - t]? = (secC (secAt s i))[j]? := by
        simp only [secC, List.getElem?_map, List.getElem?_drop]
        rw [Nat.add_sub_cancel' hj]
      rw [e2] at hv
      rw [e.out, World.cell?_setCells_out lb _ _ W _ (fun _ _ => .inr (by rw [hzt]; show i * 32 + t ≤ i * 32 + j; omega))]
      exact (h i hk).1 j v hv
  · rw [if_neg he]
    have h1 := secAt_len hl hs (by omega : k < n)
    exact ⟨range_store_apart e (h k hk).1 (.inr (by rw [secC_len, h1, hzt]; omega)), there_store e (h k hk).2⟩
theorem DiskIn.torn {W W2 : World} {db lb mb : Nat} {cv : Value} {n : Nat} {st : St} {i t : Nat} {zs : List Int} (h : DiskIn W db lb mb cv n st) (hi : i < n) (hz : zs.length = 32) (ht : t ≤ 31) (e : Hid (W2 = W.setCells lb (i * 32) (secC (zs.take t)))) : DiskIn W2 db lb mb cv n { st with safe := tornS st.safe (i, zs) t } := by
  have hm := moves_store e
  have hb : ∀ k, k < W.heap.size → k ≠ lb → W2.heap[k]? = W.heap[k]? := fun k hk hn => hm.block k hk hn
  have h0 := hb db h.lt0 h.ne1
  obtain ⟨t1, t2⟩ := torn_len (p := (i, zs)) (t := t) h.wf.len h.wf.secs hi hz ht
  exact { c0 := (World.cell?_of_block (a := ⟨db, 0, none⟩) h0).trans h.c0, c1 := (World.cell?_of_block (a := ⟨db, 1, none⟩) h0).trans h.c1, c2 := (World.cell?_of_block (a := ⟨db, 2, none⟩) h0).trans h.c2, fz := (World.frozen?_of_block (a := ⟨db, 1, none⟩) h0).trans h.fz
          secs := h.secs.torn h.wf.len h.wf.secs hz ht e, row := row_kept h.row (fun k hk => hb k (h.row.lt k hk).2 (fun x => h.ne5 (x ▸ hk))), map := map_kept h.map (hb mb h.map.lt (Ne.symm h.ne3))
          wf := ⟨t1, t2, h.wf.at_, h.wf.has⟩
          n1 := h.n1, n2 := h.n2, lt0 := by rw [size_store e]; exact h.lt0, lt1 := by rw [size_store e]; exact h.lt1, ne1 := h.ne1, ne2 := h.ne2, ne3 := h.ne3, ne4 := h.ne4, ne5 := h.ne5, ne6 := h.ne6 }

def TornSays (db lb mb : Nat) (cv : Value) (n : Nat) (st : St) (w : World) (e : Ending) (w' : World) : Prop := e = .returned (.tuple #[]) ∧ DiskIn w' db lb mb cv n st ∧ Moves (· = lb) w w'
set_option maxRecDepth 100000 in
theorem sizeD_u8 : (Try.prog.info? 5).map (·.size) = some 1 := by kernel_rfl
theorem take_range {W : World} {b i : Nat} {pz : List Int} (h : W.rangeAt b 0 (wrC (i, pz))) (m : Nat) : W.rangeAt b 1 (secC (pz.take m)) := fun q v hv => by
  have hq : q < m := by
    rcases Nat.lt_or_ge q m with h | h
    · exact h
    · rw [List.getElem?_eq_none (by rw [secC_len, List.length_take]; omega)] at hv; cases hv
  have := h (q + 1) v (by
    rw [← hv]
    simp only [wrC, secC, List.getElem?_cons_succ, List.getElem?_map, List.getElem?_take_of_lt hq])
  rwa [show 0 + (q + 1) = 1 + q by omega] at this
set_option maxRecDepth 100000 in
set_option maxHeartbeats 1000000 in
theorem torn_mid (db lb mb : Nat) (cv : Value) (n : Nat) (st : St) (pi : Nat) (pz : List Int) (tt' : Nat) (tear : Int) (w : World) (h : DiskIn w db lb mb cv n st) (hp1 : pi < n) (hp2 : pz.length = 32) (hear : tear = tt') (ht2 : tt' ≤ 31) :
    Calls Try.prog 27 #[.pointer (some ⟨db, 0, none⟩), .agg (wrC (pi, pz)).toArray, .int .i64 tear] w (TornSays db lb mb cv n { st with safe := tornS st.safe (pi, pz) tt' } w) := by
  subst hear
  have hb0 := heap_alloc_new w (.cells (wrC (pi, pz)).toArray 68)
  have hbl : Below w.heap.size w (w.alloc (.cells (wrC (pi, pz)).toArray 68)) := (Below.refl _ _).alloc (Nat.le_refl _) _
  have hd2 := h.below hbl
  have hr2 : (w.alloc (.cells (wrC (pi, pz)).toArray 68)).rangeAt w.heap.size 0 (wrC (pi, pz)) := fun j v hv => by
    rw [cell_of_row _ _ _ _ _ _ hb0, Nat.zero_add]; simpa using hv
  have hlt := h.lt1
  go_enter Try.func27, Try.ntmps27
  go_wp2
  generalize (w.alloc (.cells (wrC (pi, pz)).toArray 68)) = W2 at *
  have k0 : W2.cell? ⟨db, 0, none⟩ = some (.slice (some ⟨lb, 0, none⟩) n n) := hd2.c0
  have k1 : W2.cell? ⟨w.heap.size, 0, none⟩ = some (.int .i64 pi) := hr2 0 _ rfl
  have k2 : W2.rangeAt w.heap.size 1 (secC (pz.take tt')) := take_range hr2 tt'
  have k3 : W2.there lb (pi * 32) tt' := fun j hj => (hd2.secs pi (by rw [hd2.wf.len]; exact hp1)).2 j (by omega)
  have hcs : (secC (pz.take tt')).length = tt' := by rw [secC_len, List.length_take]; omega
  have hone := secC_one (pz.take tt')
  have hset := Lib.hid (fun W3 (e : Hid (W3 = W2.drew.setCells lb (pi * 32) (secC (pz.take tt')))) => (hd2.below (below_drewN (Below.refl _ _) 1)).torn hp1 hp2 ht2 e)
  have hmv := Lib.hid (fun W3 (e : Hid (W3 = W2.drew.setCells lb (pi * 32) (secC (pz.take tt')))) => ((moves_of_below (F := (· = lb)) hbl).trans (moves_drewN (· = lb) W2 1) (fun _ x => .inl x)).trans (moves_store e) (fun _ x => .inl x))
  have hpi0 : (0 : Int) ≤ (pi : Int) := by omega
  have hpi1 : (pi : Int) < (n : Int) := by omega
  have ht0 : (0 : Int) ≤ (tt' : Int) := by omega
  have ht3 : (tt' : Int) ≤ 31 := by omega
  have ht4 : (tt' : Int) ≤ 32 := by omega
  have hne0 : db ≠ lb := h.ne1
  have hne1 : w.heap.size ≠ lb := by omega
  generalize w.heap.size = nb at *
  clear hr2 hd2 h hb0 hbl
  have hcs' := Lib.hid hcs
  generalize secC (pz.take tt') = cs at *
  clear hcs
  go_region_held3 (fun w' => w'.cell? ⟨db, 0, none⟩ = some (.slice (some ⟨lb, 0, none⟩) n n) ∧ w'.cell? ⟨nb, 0, none⟩ = some (.int .i64 (pi : Int)) ∧ w'.rangeAt nb 1 cs ∧ w'.there lb (pi * 32) tt')
    (first | assumption | go_keep_ranges | (go_split_ands; rw [e3.out]; refine ⟨(cell_apart hne0).trans (by assumption), (cell_apart hne1).trans (by assumption), World.rangeAt_setCells_apart (by assumption) _ _ _ (.inl hne1), World.there_setCells (by assumption) _ _ _⟩))
    ((refine step_copyT (by rfl) _ _ _ _ (by rfl) 5 Try.underlying52 sizeD_u8 lb (pi * 32) 32 32 nb 1 tt' 32 (by rfl) (by rfl) cs (by rw [hcs'.out]; exact (Nat.min_eq_left (by omega)).symm) k2 (by rw [hcs'.out]; exact k3) hone ?_; intro W3 e3))
  have hh := hset.out _ e3
  have hmm := hmv.out _ e3
  clear hset hmv
  go_end0
  exact ⟨rfl, hh, hmm⟩
set_option maxRecDepth 100000 in
set_option maxHeartbeats 1000000 in
theorem torn_low (db lb mb : Nat) (cv : Value) (n : Nat) (st : St) (pi : Nat) (pz : List Int)  (tear : Int) (w : World) (h : DiskIn w db lb mb cv n st) (hp1 : pi < n) (hp2 : pz.length = 32) (hear : tear < 0) (ht2 : 0 ≤ 31) :
    Calls Try.prog 27 #[.pointer (some ⟨db, 0, none⟩), .agg (wrC (pi, pz)).toArray, .int .i64 tear] w (TornSays db lb mb cv n { st with safe := tornS st.safe (pi, pz) 0 } w) := by
  skip
  have hb0 := heap_alloc_new w (.cells (wrC (pi, pz)).toArray 68)
  have hbl : Below w.heap.size w (w.alloc (.cells (wrC (pi, pz)).toArray 68)) := (Below.refl _ _).alloc (Nat.le_refl _) _
  have hd2 := h.below hbl
  have hr2 : (w.alloc (.cells (wrC (pi, pz)).toArray 68)).rangeAt w.heap.size 0 (wrC (pi, pz)) := fun j v hv => by
    rw [cell_of_row _ _ _ _ _ _ hb0, Nat.zero_add]; simpa using hv
  have hlt := h.lt1
  go_enter Try.func27, Try.ntmps27
  go_wp2
  generalize (w.alloc (.cells (wrC (pi, pz)).toArray 68)) = W2 at *
  have k0 : W2.cell? ⟨db, 0, none⟩ = some (.slice (some ⟨lb, 0, none⟩) n n) := hd2.c0
  have k1 : W2.cell? ⟨w.heap.size, 0, none⟩ = some (.int .i64 pi) := hr2 0 _ rfl
  have k2 : W2.rangeAt w.heap.size 1 (secC (pz.take 0)) := take_range hr2 0
  have k3 : W2.there lb (pi * 32) 0 := fun j hj => (hd2.secs pi (by rw [hd2.wf.len]; exact hp1)).2 j (by omega)
  have hcs : (secC (pz.take 0)).length = 0 := by rw [secC_len, List.length_take]; omega
  have hone := secC_one (pz.take 0)
  have hset := Lib.hid (fun W3 (e : Hid (W3 = W2.drew.setCells lb (pi * 32) (secC (pz.take 0)))) => (hd2.below (below_drewN (Below.refl _ _) 1)).torn hp1 hp2 ht2 e)
  have hmv := Lib.hid (fun W3 (e : Hid (W3 = W2.drew.setCells lb (pi * 32) (secC (pz.take 0)))) => ((moves_of_below (F := (· = lb)) hbl).trans (moves_drewN (· = lb) W2 1) (fun _ x => .inl x)).trans (moves_store e) (fun _ x => .inl x))
  have hpi0 : (0 : Int) ≤ (pi : Int) := by omega
  have hpi1 : (pi : Int) < (n : Int) := by omega
  have ht0 : (0 : Int) ≤ (0 : Int) := by omega
  have ht3 : (0 : Int) ≤ 31 := by omega
  have ht4 : (0 : Int) ≤ 32 := by omega
  have hne0 : db ≠ lb := h.ne1
  have hne1 : w.heap.size ≠ lb := by omega
  generalize w.heap.size = nb at *
  clear hr2 hd2 h hb0 hbl
  have hcs' := Lib.hid hcs
  generalize secC (pz.take 0) = cs at *
  clear hcs
  go_region_held3 (fun w' => w'.cell? ⟨db, 0, none⟩ = some (.slice (some ⟨lb, 0, none⟩) n n) ∧ w'.cell? ⟨nb, 0, none⟩ = some (.int .i64 (pi : Int)) ∧ w'.rangeAt nb 1 cs ∧ w'.there lb (pi * 32) 0)
    (first | assumption | go_keep_ranges | (go_split_ands; rw [e3.out]; refine ⟨(cell_apart hne0).trans (by assumption), (cell_apart hne1).trans (by assumption), World.rangeAt_setCells_apart (by assumption) _ _ _ (.inl hne1), World.there_setCells (by assumption) _ _ _⟩))
    ((refine step_copyT (by rfl) _ _ _ _ (by rfl) 5 Try.underlying52 sizeD_u8 lb (pi * 32) 32 32 nb 1 0 32 (by rfl) (by rfl) cs (by rw [hcs'.out]; exact (Nat.min_eq_left (by omega)).symm) k2 (by rw [hcs'.out]; exact k3) hone ?_; intro W3 e3))
  have hh := hset.out _ e3
  have hmm := hmv.out _ e3
  clear hset hmv
  go_end0
  exact ⟨rfl, hh, hmm⟩
set_option maxRecDepth 100000 in
set_option maxHeartbeats 1000000 in
theorem torn_high (db lb mb : Nat) (cv : Value) (n : Nat) (st : St) (pi : Nat) (pz : List Int)  (tear : Int) (w : World) (h : DiskIn w db lb mb cv n st) (hp1 : pi < n) (hp2 : pz.length = 32) (hear : 31 < tear) (ht2 : 31 ≤ 31) :
    Calls Try.prog 27 #[.pointer (some ⟨db, 0, none⟩), .agg (wrC (pi, pz)).toArray, .int .i64 tear] w (TornSays db lb mb cv n { st with safe := tornS st.safe (pi, pz) 31 } w) := by
  skip
  have hb0 := heap_alloc_new w (.cells (wrC (pi, pz)).toArray 68)
  have hbl : Below w.heap.size w (w.alloc (.cells (wrC (pi, pz)).toArray 68)) := (Below.refl _ _).alloc (Nat.le_refl _) _
  have hd2 := h.below hbl
  have hr2 : (w.alloc (.cells (wrC (pi, pz)).toArray 68)).rangeAt w.heap.size 0 (wrC (pi, pz)) := fun j v hv => by
    rw [cell_of_row _ _ _ _ _ _ hb0, Nat.zero_add]; simpa using hv
  have hlt := h.lt1
  go_enter Try.func27, Try.ntmps27
  go_wp2
  generalize (w.alloc (.cells (wrC (pi, pz)).toArray 68)) = W2 at *
  have k0 : W2.cell? ⟨db, 0, none⟩ = some (.slice (some ⟨lb, 0, none⟩) n n) := hd2.c0
  have k1 : W2.cell? ⟨w.heap.size, 0, none⟩ = some (.int .i64 pi) := hr2 0 _ rfl
  have k2 : W2.rangeAt w.heap.size 1 (secC (pz.take 31)) := take_range hr2 31
  have k3 : W2.there lb (pi * 32) 31 := fun j hj => (hd2.secs pi (by rw [hd2.wf.len]; exact hp1)).2 j (by omega)
  have hcs : (secC (pz.take 31)).length = 31 := by rw [secC_len, List.length_take]; omega
  have hone := secC_one (pz.take 31)
  have hset := Lib.hid (fun W3 (e : Hid (W3 = W2.drew.setCells lb (pi * 32) (secC (pz.take 31)))) => (hd2.below (below_drewN (Below.refl _ _) 1)).torn hp1 hp2 ht2 e)
  have hmv := Lib.hid (fun W3 (e : Hid (W3 = W2.drew.setCells lb (pi * 32) (secC (pz.take 31)))) => ((moves_of_below (F := (· = lb)) hbl).trans (moves_drewN (· = lb) W2 1) (fun _ x => .inl x)).trans (moves_store e) (fun _ x => .inl x))
  have hpi0 : (0 : Int) ≤ (pi : Int) := by omega
  have hpi1 : (pi : Int) < (n : Int) := by omega
  have ht0 : (0 : Int) ≤ (31 : Int) := by omega
  have ht3 : (31 : Int) ≤ 31 := by omega
  have ht4 : (31 : Int) ≤ 32 := by omega
  have hne0 : db ≠ lb := h.ne1
  have hne1 : w.heap.size ≠ lb := by omega
  generalize w.heap.size = nb at *
  clear hr2 hd2 h hb0 hbl
  have hcs' := Lib.hid hcs
  generalize secC (pz.take 31) = cs at *
  clear hcs
  go_region_held3 (fun w' => w'.cell? ⟨db, 0, none⟩ = some (.slice (some ⟨lb, 0, none⟩) n n) ∧ w'.cell? ⟨nb, 0, none⟩ = some (.int .i64 (pi : Int)) ∧ w'.rangeAt nb 1 cs ∧ w'.there lb (pi * 32) 31)
    (first | assumption | go_keep_ranges | (go_split_ands; rw [e3.out]; refine ⟨(cell_apart hne0).trans (by assumption), (cell_apart hne1).trans (by assumption), World.rangeAt_setCells_apart (by assumption) _ _ _ (.inl hne1), World.there_setCells (by assumption) _ _ _⟩))
    ((refine step_copyT (by rfl) _ _ _ _ (by rfl) 5 Try.underlying52 sizeD_u8 lb (pi * 32) 32 32 nb 1 31 32 (by rfl) (by rfl) cs (by rw [hcs'.out]; exact (Nat.min_eq_left (by omega)).symm) k2 (by rw [hcs'.out]; exact k3) hone ?_; intro W3 e3))
  have hh := hset.out _ e3
  have hmm := hmv.out _ e3
  clear hset hmv
  go_end0
  exact ⟨rfl, hh, hmm⟩
theorem torn_any (db lb mb : Nat) (cv : Value) (n : Nat) (st : St) (pi : Nat) (pz : List Int) (t : Nat) (tear : Int) (w : World) (h : DiskIn w db lb mb cv n st) (hp1 : pi < n) (hp2 : pz.length = 32) (ht : tearOf tear = t) :
    Calls Try.prog 27 #[.pointer (some ⟨db, 0, none⟩), .agg (wrC (pi, pz)).toArray, .int .i64 tear] w (TornSays db lb mb cv n { st with safe := tornS st.safe (pi, pz) t } w) := by
  subst ht
  unfold tearOf
  by_cases h0 : tear < 0
  · rw [show min tear.toNat 31 = 0 by omega]; exact torn_low db lb mb cv n st pi pz tear w h hp1 hp2 h0 (by omega)
  · by_cases h1 : 31 < tear
    · rw [show min tear.toNat 31 = 31 by omega]; exact torn_high db lb mb cv n st pi pz tear w h hp1 hp2 h1 (by omega)
    · rw [show min tear.toNat 31 = tear.toNat by omega]; exact torn_mid db lb mb cv n st pi pz tear.toNat tear w h hp1 hp2 (by omega) (by omega)
end Go.Proofs.Ytdmkkfpbgpijjaa
namespace Go.Proofs.Ytdmkkfpbgpijjaa
open Go.RowKit Go.Deep Go.Maps

theorem row_shape {w : World} {e : TypeId} {size : Nat} {v : Value} {n : Nat} {xs : List Value} (h : w.ownsRow 0 e size v n xs) : ∃ A c, v = .slice A n c ∧ n ≤ c := by
  rcases h.2 with ⟨rfl, rfl⟩ | ⟨g, cap, cur, rfl, _, _, hc, _⟩
  · exact ⟨none, 0, rfl, Nat.le_refl _⟩
  · exact ⟨_, cap, rfl, hc⟩
/-- A call that turns a disk, and nothing else that was there. -/
def Does (F : Nat → Prop) (db n : Nat) (st : St) (v : Value) (w : World) (e : Ending) (w' : World) : Prop := e = .returned v ∧ DiskAt w' (grow F w w') db n st ∧ Moves F w w'
theorem does_mk {F : Nat → Prop} {db lb mb n : Nat} {cv : Value} {st : St} {v : Value} {w w' : World} (h : DiskIn w' db lb mb cv n st) (hm : Moves F w w') (f0 : F db) (f1 : F lb) (f2 : F mb) (f3 : ∀ k, cv.ownBlock = some k → F k ∨ w.heap.size ≤ k) (f4 : ∀ k, F k → k < w.heap.size) : Does F db n st v w (.returned v) w' := by
  refine ⟨rfl, ⟨lb, mb, cv, h, .inl f0, .inl f1, .inl f2, fun k hk => (f3 k hk).elim .inl (fun g => .inr ⟨g, (h.row.lt k hk).2⟩), ?_⟩, hm⟩
  rintro k (hk | hk)
  · exact Nat.lt_of_lt_of_le (f4 k hk) hm.size
  · exact hk.2
set_option maxRecDepth 100000 in
set_option maxHeartbeats 1000000 in
theorem flush_any (F : Nat → Prop) (db n : Nat) (st : St) (w : World) (h : DiskAt w F db n st) (hc : st.cache.length ≤ 1000) :
    Calls Try.prog 25 #[.pointer (some ⟨db, 0, none⟩)] w (Does F db n (flushS st) (.tuple #[]) w) := by
  obtain ⟨lb, mb, cv, h, f0, f1, f2, f3, f4⟩ := h
  obtain ⟨A, c, rfl, _⟩ := row_shape h.row
  have c1 := h.c1
  go_enter Try.func25, Try.ntmps25
  go_wp2_with fail
  refine (carry_any db lb mb _ n st A _ c w h ⟨_, _, rfl⟩ (Nat.le_refl _) hc).mono ?_
  rintro e w1 ⟨rfl, h1, m1⟩
  have H1 := Lib.hid h1
  have M1 := Lib.hid m1
  clear h1 m1
  go_wp2_with fail
  refine (empty_any db lb mb _ n _ w1 H1.out).mono ?_
  rintro e w2 ⟨rfl, h2, m2⟩
  have H2 := Lib.hid h2
  have M2 := Lib.hid m2
  clear h2 m2
  go_wp2
  go_end0
  have h2 := H2.out
  rw [List.take_length] at h2
  exact does_mk h2 ((M1.out.mono (fun _ e => e ▸ f1)).trans (M2.out.mono (fun k (e : k = db ∨ k = mb) => (e.elim (fun x => x ▸ f0) (fun x => x ▸ f2) : F k))) (fun _ e => .inl e)) f0 f1 f2 (fun k hk => by cases hk) f4
theorem crash_all_eq (st : St) (keep tear : Int) (h : keptOf keep st.cache.length = st.cache.length) : crashS st keep tear = flushS st := by
  unfold crashS crashL flushS nows
  rw [h, List.getElem?_eq_none (Nat.le_refl _)]
theorem crash_some_eq (st : St) (keep tear : Int) (k : Nat) (p : Nat × List Int) (h : keptOf keep st.cache.length = k) (hp : st.cache[k]? = some p) : crashS st keep tear = { safe := tornS (carry st.safe (st.cache.take k)) p (tearOf tear), cache := [] } := by
  unfold crashS crashL
  rw [h, hp]
set_option maxRecDepth 100000 in
set_option maxHeartbeats 1000000 in
theorem crash_all (F : Nat → Prop) (db n : Nat) (st : St) (keep tear : Int) (w : World) (h : DiskAt w F db n st) (hc : st.cache.length ≤ 1000) (hk : (st.cache.length : Int) < keep) :
    Calls Try.prog 12 #[.pointer (some ⟨db, 0, none⟩), .int .i64 keep, .int .i64 tear] w (Does F db n (crashS st keep tear) (.tuple #[]) w) := by
  obtain ⟨lb, mb, cv, h, f0, f1, f2, f3, f4⟩ := h
  obtain ⟨A, c, rfl, hcl⟩ := row_shape h.row
  rw [crash_all_eq st keep tear (by unfold keptOf; omega)]
  have c1 := h.c1
  skip
  go_enter Try.func12, Try.ntmps12
  go_wp2_with fail
  refine (carry_any db lb mb _ n st A _ c w h ⟨_, _, rfl⟩ (Nat.le_refl _) hc).mono ?_
  rintro e w1 ⟨rfl, h1, m1⟩
  have H1 := Lib.hid h1
  have M1 := Lib.hid m1
  have c1b := h1.c1
  clear h1 m1
  go_wp2_with fail
  refine (empty_any db lb mb _ n _ w1 H1.out).mono ?_
  rintro e w2 ⟨rfl, h2, m2⟩
  have H2 := Lib.hid h2
  have M2 := Lib.hid m2
  clear h2 m2
  go_wp2
  go_end0
  have h2 := H2.out
  rw [List.take_length] at h2
  exact does_mk h2 ((M1.out.mono (fun _ e => e ▸ f1)).trans (M2.out.mono (fun k (e : k = db ∨ k = mb) => (e.elim (fun x => x ▸ f0) (fun x => x ▸ f2) : F k))) (fun _ e => .inl e)) f0 f1 f2 (fun k hk => by cases hk) f4
set_option maxRecDepth 100000 in
set_option maxHeartbeats 1000000 in
theorem crash_same (F : Nat → Prop) (db n : Nat) (st : St) (keep tear : Int) (w : World) (h : DiskAt w F db n st) (hc : st.cache.length ≤ 1000) (hk : keep = (st.cache.length : Int)) :
    Calls Try.prog 12 #[.pointer (some ⟨db, 0, none⟩), .int .i64 keep, .int .i64 tear] w (Does F db n (crashS st keep tear) (.tuple #[]) w) := by
  obtain ⟨lb, mb, cv, h, f0, f1, f2, f3, f4⟩ := h
  obtain ⟨A, c, rfl, hcl⟩ := row_shape h.row
  rw [crash_all_eq st keep tear (by unfold keptOf; omega)]
  have c1 := h.c1
  subst hk
  go_enter Try.func12, Try.ntmps12
  go_wp2_with fail
  refine (carry_any db lb mb _ n st A _ c w h ⟨_, _, rfl⟩ (Nat.le_refl _) hc).mono ?_
  rintro e w1 ⟨rfl, h1, m1⟩
  have H1 := Lib.hid h1
  have M1 := Lib.hid m1
  have c1b := h1.c1
  clear h1 m1
  go_wp2_with fail
  refine (empty_any db lb mb _ n _ w1 H1.out).mono ?_
  rintro e w2 ⟨rfl, h2, m2⟩
  have H2 := Lib.hid h2
  have M2 := Lib.hid m2
  clear h2 m2
  go_wp2
  go_end0
  have h2 := H2.out
  rw [List.take_length] at h2
  exact does_mk h2 ((M1.out.mono (fun _ e => e ▸ f1)).trans (M2.out.mono (fun k (e : k = db ∨ k = mb) => (e.elim (fun x => x ▸ f0) (fun x => x ▸ f2) : F k))) (fun _ e => .inl e)) f0 f1 f2 (fun k hk => by cases hk) f4
set_option maxRecDepth 100000 in
set_option maxHeartbeats 1000000 in
theorem crash_none (F : Nat → Prop) (db n : Nat) (sf : List (List Int)) (keep tear : Int) (w : World) (h : DiskAt w F db n ⟨sf, []⟩) (hk : keep < 0) :
    Calls Try.prog 12 #[.pointer (some ⟨db, 0, none⟩), .int .i64 keep, .int .i64 tear] w (Does F db n (crashS ⟨sf, []⟩ keep tear) (.tuple #[]) w) := by
  obtain ⟨lb, mb, cv, h, f0, f1, f2, f3, f4⟩ := h
  obtain ⟨A, c, rfl, hcl⟩ := row_shape h.row
  rw [crash_all_eq ⟨sf, []⟩ keep tear (by simp [keptOf])]
  have c1 : w.cell? ⟨db, 1, none⟩ = some (.slice A 0 c) := h.c1
  have g1 : (0 : Int) ≤ (c : Int) := by omega
  go_enter Try.func12, Try.ntmps12
  go_wp2_with fail
  refine (carry_any db lb mb _ n ⟨sf, []⟩ A 0 c w h ⟨_, _, rfl⟩ (Nat.zero_le _) (by omega)).mono ?_
  rintro e w1 ⟨rfl, h1, m1⟩
  have H1 := Lib.hid h1
  have M1 := Lib.hid m1
  have c1b : w1.cell? ⟨db, 1, none⟩ = some (.slice A 0 c) := h1.c1
  clear h1 m1
  go_wp2_with fail
  refine (empty_any db lb mb _ n _ w1 H1.out).mono ?_
  rintro e w2 ⟨rfl, h2, m2⟩
  have H2 := Lib.hid h2
  have M2 := Lib.hid m2
  clear h2 m2
  go_wp2
  go_end0
  exact does_mk H2.out ((M1.out.mono (fun _ e => e ▸ f1)).trans (M2.out.mono (fun k (e : k = db ∨ k = mb) => (e.elim (fun x => x ▸ f0) (fun x => x ▸ f2) : F k))) (fun _ e => .inl e)) f0 f1 f2 (fun k hk => by cases hk) f4
set_option maxRecDepth 100000 in
set_option maxHeartbeats 1000000 in
theorem crash_some (F : Nat → Prop) (db n : Nat) (st : St) (kk' : Nat) (keep tear : Int) (w : World) (h : DiskAt w F db n st) (hc : st.cache.length ≤ 1000) (hk : keep = kk') (hkl : kk' < st.cache.length) :
    Calls Try.prog 12 #[.pointer (some ⟨db, 0, none⟩), .int .i64 keep, .int .i64 tear] w (Does F db n (crashS st keep tear) (.tuple #[]) w) := by
  obtain ⟨lb, mb, cv, h, f0, f1, f2, f3, f4⟩ := h
  obtain ⟨A, c, rfl, hcl⟩ := row_shape h.row
  have hp : st.cache[kk']? = some st.cache[kk'] := List.getElem?_eq_getElem hkl
  have hmem := List.mem_of_getElem? hp
  generalize st.cache[kk'] = p at *
  have hp1 := h.wf.at_ p hmem
  have hp2 := h.wf.has p hmem
  rw [crash_some_eq st keep tear kk' p (by unfold keptOf; omega) hp]
  have c1 := h.c1
  subst hk
  have HP := Lib.hid hp
  have HP2 := Lib.hid hp2
  clear hp hmem hp2
  have g0 : (kk' : Int) < (st.cache.length : Int) := by omega
  have g1 : (kk' : Int) ≤ (c : Int) := by omega
  go_enter Try.func12, Try.ntmps12
  go_wp2_with fail
  refine (carry_any db lb mb _ n st A kk' c w h ⟨_, _, rfl⟩ (by omega) (by omega)).mono ?_
  rintro e w1 ⟨rfl, h1, m1⟩
  have H1 := Lib.hid h1
  have M1 := Lib.hid m1
  have c1b := h1.c1
  obtain ⟨cb, cap, hv, _, hcbl⟩ := h1.row.form (by show 0 < st.cache.length; omega)
  obtain rfl : A = some ⟨cb, 0, none⟩ := by injection hv
  have hR := Lib.hid (row_range h1.row rfl h1.wf.has HP.out)
  have hc33 := Lib.hid (wrC_len p HP2.out)
  clear h1 m1 hv
  go_wp2_with (first | (refine wpList_load_mid rfl 68 (.tmp 36) rfl cb (kk' * 33) rfl (wrC p) _ hR.out Try.underlying68 rfl (by rw [hc33.out]; exact size_wr) ?_))
  refine (torn_any db lb mb _ n _ p.1 p.2 (tearOf tear) tear w1 H1.out hp1 HP2.out rfl).mono ?_
  rintro e w2 ⟨rfl, h2, m2⟩
  have H2 := Lib.hid h2
  have M2 := Lib.hid m2
  clear h2 m2
  go_wp2_with fail
  refine (empty_any db lb mb _ n _ w2 H2.out).mono ?_
  rintro e w3 ⟨rfl, h3, m3⟩
  have H3 := Lib.hid h3
  have M3 := Lib.hid m3
  clear h3 m3
  go_wp2
  go_end0
  exact does_mk H3.out (((M1.out.mono (fun _ e => e ▸ f1)).trans (M2.out.mono (fun _ e => (e ▸ f1 : F _))) (fun _ e => .inl e)).trans (M3.out.mono (fun k (e : k = db ∨ k = mb) => (e.elim (fun x => x ▸ f0) (fun x => x ▸ f2) : F k))) (fun _ e => .inl e)) f0 f1 f2 (fun k hk => by cases hk) f4
set_option maxRecDepth 100000 in
set_option maxHeartbeats 1000000 in
theorem crash_low (F : Nat → Prop) (db n : Nat) (st : St)  (keep tear : Int) (w : World) (h : DiskAt w F db n st) (hc : st.cache.length ≤ 1000) (hk : keep < 0) (hkl : 0 < st.cache.length) :
    Calls Try.prog 12 #[.pointer (some ⟨db, 0, none⟩), .int .i64 keep, .int .i64 tear] w (Does F db n (crashS st keep tear) (.tuple #[]) w) := by
  obtain ⟨lb, mb, cv, h, f0, f1, f2, f3, f4⟩ := h
  obtain ⟨A, c, rfl, hcl⟩ := row_shape h.row
  have hp : st.cache[0]? = some st.cache[0] := List.getElem?_eq_getElem hkl
  have hmem := List.mem_of_getElem? hp
  generalize st.cache[0] = p at *
  have hp1 := h.wf.at_ p hmem
  have hp2 := h.wf.has p hmem
  rw [crash_some_eq st keep tear 0 p (by unfold keptOf; omega) hp]
  have c1 := h.c1
  skip
  have HP := Lib.hid hp
  have HP2 := Lib.hid hp2
  clear hp hmem hp2
  have g0 : (0 : Int) < (st.cache.length : Int) := by omega
  have g1 : (0 : Int) ≤ (c : Int) := by omega
  go_enter Try.func12, Try.ntmps12
  go_wp2_with fail
  refine (carry_any db lb mb _ n st A 0 c w h ⟨_, _, rfl⟩ (by omega) (by omega)).mono ?_
  rintro e w1 ⟨rfl, h1, m1⟩
  have H1 := Lib.hid h1
  have M1 := Lib.hid m1
  have c1b := h1.c1
  obtain ⟨cb, cap, hv, _, hcbl⟩ := h1.row.form (by show 0 < st.cache.length; omega)
  obtain rfl : A = some ⟨cb, 0, none⟩ := by injection hv
  have hR := Lib.hid (row_range h1.row rfl h1.wf.has HP.out)
  have hc33 := Lib.hid (wrC_len p HP2.out)
  clear h1 m1 hv
  go_wp2_with (first | (refine wpList_load_mid rfl 68 (.tmp 36) rfl cb 0 rfl (wrC p) _ hR.out Try.underlying68 rfl (by rw [hc33.out]; exact size_wr) ?_))
  refine (torn_any db lb mb _ n _ p.1 p.2 (tearOf tear) tear w1 H1.out hp1 HP2.out rfl).mono ?_
  rintro e w2 ⟨rfl, h2, m2⟩
  have H2 := Lib.hid h2
  have M2 := Lib.hid m2
  clear h2 m2
  go_wp2_with fail
  refine (empty_any db lb mb _ n _ w2 H2.out).mono ?_
  rintro e w3 ⟨rfl, h3, m3⟩
  have H3 := Lib.hid h3
  have M3 := Lib.hid m3
  clear h3 m3
  go_wp2
  go_end0
  exact does_mk H3.out (((M1.out.mono (fun _ e => e ▸ f1)).trans (M2.out.mono (fun _ e => (e ▸ f1 : F _))) (fun _ e => .inl e)).trans (M3.out.mono (fun k (e : k = db ∨ k = mb) => (e.elim (fun x => x ▸ f0) (fun x => x ▸ f2) : F k))) (fun _ e => .inl e)) f0 f1 f2 (fun k hk => by cases hk) f4
theorem crash_any (F : Nat → Prop) (db n : Nat) (st : St) (keep tear : Int) (w : World) (h : DiskAt w F db n st) (hc : st.cache.length ≤ 1000) :
    Calls Try.prog 12 #[.pointer (some ⟨db, 0, none⟩), .int .i64 keep, .int .i64 tear] w (Does F db n (crashS st keep tear) (.tuple #[]) w) := by
  by_cases h0 : keep < 0
  · by_cases h1 : st.cache.length = 0
    · obtain ⟨sf, ca⟩ := st
      obtain rfl : ca = [] := List.eq_nil_of_length_eq_zero h1
      exact crash_none F db n sf keep tear w h h0
    · exact crash_low F db n st keep tear w h hc h0 (by omega)
  · by_cases h1 : (st.cache.length : Int) < keep
    · exact crash_all F db n st keep tear w h hc h1
    · by_cases h2 : keep = (st.cache.length : Int)
      · exact crash_same F db n st keep tear w h hc h2
      · exact crash_some F db n st keep.toNat keep tear w h hc (by omega) (by omega)
end Go.Proofs.Ytdmkkfpbgpijjaa
namespace Go.Proofs.Ytdmkkfpbgpijjaa
open Go.RowKit Go.Deep Go.Maps
attribute [local go_sem ↓] Go.wp_at_zero Go.wp_at_succ

set_option maxRecDepth 100000 in
theorem info_wr : (Try.prog.info? 68).map (fun i => (i.zero, i.size, i.bytes)) = some (some (.agg (#[Value.int .i64 0] ++ Array.replicate 32 (Value.int .u8 0))), 33, 40) := by kernel_rfl
theorem lay_list (off : Nat) : ∀ (cs : List Value) (k : Nat) (C : Array Value), off + k + cs.length ≤ C.size → ((cs.zipIdx k).foldl (fun C (x : Value × Nat) => C.setIfInBounds (off + x.2) x.1) C).toList = C.toList.take (off + k) ++ (cs ++ C.toList.drop (off + k + cs.length))
  | [], k, C, _ => by simp
  | c :: cs, k, C, h => by
    rw [List.length_cons] at h
    have e : (((c :: cs).zipIdx k).foldl (fun C (x : Value × Nat) => C.setIfInBounds (off + x.2) x.1) C) = ((cs.zipIdx (k + 1)).foldl (fun C (x : Value × Nat) => C.setIfInBounds (off + x.2) x.1) (C.setIfInBounds (off + k) c)) := rfl
    rw [e, lay_list off cs (k + 1) _ (by rw [Array.size_setIfInBounds]; omega), Array.toList_setIfInBounds]
    have hm : off + k < C.toList.length := by rw [Array.length_toList]; omega
    rw [show off + (k + 1) = off + k + 1 by omega, List.take_succ_eq_append_getElem (by rw [List.length_set]; exact hm), List.take_set, List.getElem_set_self]
    rw [List.drop_set_of_lt (by omega), List.set_eq_of_length_le (by rw [List.length_take]; omega)]
    simp [List.length_cons, Nat.add_assoc, Nat.add_comm 1]
theorem fold_wr (i : Nat) (zs : List Int) (hz : zs.length = 32) : List.foldl (fun (cs : Array Value) (x : Value × Nat) => cs.setIfInBounds (1 + x.snd) x.fst) #[Value.int .i64 (i : Int), Value.int .u8 0, Value.int .u8 0, Value.int .u8 0, Value.int .u8 0, Value.int .u8 0, Value.int .u8 0, Value.int .u8 0, Value.int .u8 0, Value.int .u8 0, Value.int .u8 0, Value.int .u8 0, Value.int .u8 0, Value.int .u8 0, Value.int .u8 0, Value.int .u8 0, Value.int .u8 0, Value.int .u8 0, Value.int .u8 0, Value.int .u8 0, Value.int .u8 0, Value.int .u8 0, Value.int .u8 0, Value.int .u8 0, Value.int .u8 0, Value.int .u8 0, Value.int .u8 0, Value.int .u8 0, Value.int .u8 0, Value.int .u8 0, Value.int .u8 0, Value.int .u8 0, Value.int .u8 0] (secC zs).zipIdx = (wrC (i, zs)).toArray := by
  have hl : (secC zs).length = 32 := (secC_len zs).trans hz
  apply Array.ext'
  rw [lay_list 1 (secC zs) 0 _ (by rw [hl]; simp)]
  rw [hl]
  simp [wrC]
theorem range_setCell_apart {W : World} {b o : Nat} {cs : List Value} {a : Addr} {v : Value} (h : W.rangeAt b o cs) (hne : b ≠ a.block) : (W.setCell a v).rangeAt b o cs := rangeAt_of_block' (RowKit.Below.heap_setCell _ _ _ _ hne) h
theorem fold_all (cs : List Value) (hl : cs.length = 33) : List.foldl (fun (cs : Array Value) (x : Value × Nat) => cs.setIfInBounds x.snd x.fst) #[Value.int .i64 0, Value.int .u8 0, Value.int .u8 0, Value.int .u8 0, Value.int .u8 0, Value.int .u8 0, Value.int .u8 0, Value.int .u8 0, Value.int .u8 0, Value.int .u8 0, Value.int .u8 0, Value.int .u8 0, Value.int .u8 0, Value.int .u8 0, Value.int .u8 0, Value.int .u8 0, Value.int .u8 0, Value.int .u8 0, Value.int .u8 0, Value.int .u8 0, Value.int .u8 0, Value.int .u8 0, Value.int .u8 0, Value.int .u8 0, Value.int .u8 0, Value.int .u8 0, Value.int .u8 0, Value.int .u8 0, Value.int .u8 0, Value.int .u8 0, Value.int .u8 0, Value.int .u8 0, Value.int .u8 0] cs.zipIdx = cs.toArray := by
  have e : (fun (cs : Array Value) (x : Value × Nat) => cs.setIfInBounds x.snd x.fst) = (fun cs x => cs.setIfInBounds (0 + x.snd) x.fst) := by funext cs x; rw [Nat.zero_add]
  rw [e]
  apply Array.ext'
  rw [lay_list 0 cs 0 _ (by rw [hl]; simp)]
  rw [hl]
  simp
theorem step_mapUpdate {P : Program} {ops : Array Oper} {o : Oper} {a : Act} {w : World} {K : Act → World → Prop} {Q : Exit → Act → World → Prop} {E : Prop} (hgd : o.guard = none) (m x v : Operand) (t : TypeId) (hop : o.op = Op.mapUpdate t m x v)
    (k e : TypeId) (Kd : Keyed P k) (ht : P.underlying t = some (.map k e)) (R : Value → Option (DataW Unit × List MemPlace)) (b n : Nat) (D : DataW Unit)
    (hm : a.eval m = .map (some b)) (hown : w.ownsMap P k R b n D) (hn : n < maxLen) (key val : Value) (kl : Lit) (hx : a.eval x = key) (hv : a.eval v = val) (hkey : keyOf P k key = some kl)
    (d : DataW Unit) (ps : List MemPlace) (hval : R val = some (d, ps))
    (h : ∀ w', w'.ownsMap P k R b (n + 1) (D.put kl d) → w.grownBy w' (some b) → K (a.put o.dst undef) w') :
    if Region.wanted o (yielded ops a.tmps) = true then Oper.wp P o a w K Q else E := by
  have hw : Region.wanted o (yielded ops a.tmps) = true := by simp [Region.wanted, hgd]
  rw [if_pos hw]
  obtain ⟨w', hrun, r1, r2⟩ := hown.update Kd ht hn hkey hval
  unfold Oper.wp
  simp [execOp, hop, hm, hx, hv, hrun, Result.andThen]
  exact h w' r1 r2
theorem DiskIn.written {F : Nat → Prop} {W2 w1 W4 : World} {o : Obj} {db lb mb : Nat} {cv : Value} {n : Nat} {st : St} {i : Nat} {zs : List Int} {gg cap : Nat} (h : DiskIn W2 db lb mb cv n st) (hi : i < n) (hz : zs.length = 32)
    (hgrow : (W2.alloc o).drew.grownBy w1 cv.ownBlock) (hown : w1.ownsRow 0 68 33 (.slice (some ⟨gg, 0, none⟩) (st.cache.length + 1) cap) (st.cache.length + 1) (st.cache.flatMap wrC ++ wrC (i, zs)))
    (hat : cv.ownBlock = some gg ∨ gg = W2.heap.size + 1) (hm : (w1.setCell ⟨db, 1, none⟩ (.slice (some ⟨gg, 0, none⟩) (st.cache.length + 1) cap)).grownBy W4 (some mb))
    (hmap : W4.ownsMap Try.prog 3 secR mb (st.cache.length + 1) ((mapOf st.cache).put (keyL i) (secD zs))) (f0 : F db) (f2 : F mb) (f3 : ∀ k, cv.ownBlock = some k → F k) :
    DiskIn W4 db lb mb (.slice (some ⟨gg, 0, none⟩) (st.cache.length + 1) cap) n (writeS st i zs) ∧ Moves F W2 W4 := by
  have hsz : (W2.alloc o).drew.heap.size = W2.heap.size + 1 := by simp
  have m1 : Moves F W2 w1 := ((moves_alloc F W2 o).trans (moves_drewN F _ 1) (fun _ e => .inl e)).trans (moves_of_grown (F := F) hgrow (fun k e => f3 k e)) (fun _ e => .inl e)
  have hs1 := hgrow.size
  generalize hv : (Value.slice (some ⟨gg, 0, none⟩) (st.cache.length + 1) cap) = v at *
  have hvb : v.ownBlock = some gg := by rw [← hv]; rfl
  have m2 : Moves (· = db) w1 (w1.setCell ⟨db, 1, none⟩ v) := moves_setCell _ _ _ _ rfl
  have hs3 : (w1.setCell ⟨db, 1, none⟩ v).heap.size = w1.heap.size := by simp
  have m3 : Moves (· = mb) (w1.setCell ⟨db, 1, none⟩ v) W4 := moves_of_grown hm (fun k e => by injection e with e; exact e.symm)
  have g1 : ∀ k, k < W2.heap.size → cv.ownBlock ≠ some k → w1.heap[k]? = W2.heap[k]? := fun k hk hne => by
    rw [hgrow.block k (by omega) (fun e => hne e.symm)]
    exact Below.heap_alloc W2 o k hk
  have hdb1 : w1.heap[db]? = W2.heap[db]? := g1 db h.lt0 h.ne4
  have q1 : w1.cell? ⟨db, 1, none⟩ = some cv := (World.cell?_of_block (a := ⟨db, 1, none⟩) hdb1).trans h.c1
  have k1 : (w1.setCell ⟨db, 1, none⟩ v).cell? ⟨db, 1, none⟩ = some v := World.cell?_setCell_same _ _ _ q1
  have k0 : (w1.setCell ⟨db, 1, none⟩ v).cell? ⟨db, 0, none⟩ = w1.cell? ⟨db, 0, none⟩ := World.cell?_setCell_other _ _ _ _ (by simp)
  have k2 : (w1.setCell ⟨db, 1, none⟩ v).cell? ⟨db, 2, none⟩ = w1.cell? ⟨db, 2, none⟩ := World.cell?_setCell_other _ _ _ _ (by simp)
  have kf : (w1.setCell ⟨db, 1, none⟩ v).frozen? ⟨db, 1, none⟩ = w1.frozen? ⟨db, 1, none⟩ := World.frozen?_setCell _ _ _ _
  have lt0 := h.lt0
  have lt1 := h.lt1
  have lt2 := h.map.lt
  have hd4 : W4.heap[db]? = (w1.setCell ⟨db, 1, none⟩ v).heap[db]? := m3.block db (by omega) h.ne2
  have hl4 : W4.heap[lb]? = W2.heap[lb]? := ((m3.block lb (by omega) h.ne3).trans (m2.block lb (by omega) (Ne.symm h.ne1))).trans (g1 lb h.lt1 h.ne5)
  have hg4 : gg ≠ db ∧ gg ≠ lb ∧ gg ≠ mb := by
    rcases hat with e | e
    · exact ⟨fun x => h.ne4 (x ▸ e), fun x => h.ne5 (x ▸ e), fun x => h.ne6 (x ▸ e)⟩
    · omega
  have hgl : gg < w1.heap.size := (hown.lt gg hvb).2
  have hr4 : W4.heap[gg]? = w1.heap[gg]? := (m3.block gg (by omega) hg4.2.2).trans (m2.block gg hgl hg4.1)
  have hs4 := m3.size
  refine ⟨?_, (m1.trans (m2.mono (fun _ e => (e ▸ f0 : F _))) (fun _ e => .inl e)).trans (m3.mono (fun _ e => (e ▸ f2 : F _))) (fun _ e => .inl e)⟩
  exact { c0 := ((World.cell?_of_block (a := ⟨db, 0, none⟩) hd4).trans k0).trans ((World.cell?_of_block (a := ⟨db, 0, none⟩) hdb1).trans h.c0)
          c1 := (World.cell?_of_block (a := ⟨db, 1, none⟩) hd4).trans k1
          c2 := ((World.cell?_of_block (a := ⟨db, 2, none⟩) hd4).trans k2).trans ((World.cell?_of_block (a := ⟨db, 2, none⟩) hdb1).trans h.c2)
          fz := ((World.frozen?_of_block (a := ⟨db, 1, none⟩) hd4).trans kf).trans ((World.frozen?_of_block (a := ⟨db, 1, none⟩) hdb1).trans h.fz)
          secs := h.secs.kept hl4
          row := by
            have e1 : (writeS st i zs).cache.length = st.cache.length + 1 := by simp [writeS]
            have e2 : (writeS st i zs).cache.flatMap wrC = st.cache.flatMap wrC ++ wrC (i, zs) := by simp [writeS]
            rw [e1, e2]
            exact row_kept hown (fun k hk => by rw [hvb] at hk; injection hk with hk; rw [← hk]; exact hr4)
          map := by
            have e1 : (writeS st i zs).cache.length = st.cache.length + 1 := by simp [writeS]
            have e2 : mapOf (writeS st i zs).cache = (mapOf st.cache).put (keyL i) (secD zs) := mapOf_snoc st.cache (i, zs)
            rw [e1, e2]
            exact hmap
          wf := h.wf.write hi hz, n1 := h.n1, n2 := h.n2, lt0 := by omega, lt1 := by omega, ne1 := h.ne1, ne2 := h.ne2, ne3 := h.ne3
          ne4 := by rw [hvb]; exact fun e => hg4.1 (by injection e), ne5 := by rw [hvb]; exact fun e => hg4.2.1 (by injection e), ne6 := by rw [hvb]; exact fun e => hg4.2.2 (by injection e) }
set_option maxRecDepth 100000 in
set_option maxHeartbeats 2000000 in
theorem write_ok (F : Nat → Prop) (db n i : Nat) (st : St) (A : Option Addr) (c : Nat) (zs : List Int) (w : World) (h : DiskAt w F db n st) (hi : i < n) (hz : zs.length = 32) (hg : Good A c zs w) (hc : st.cache.length ≤ 999) :
    Calls Try.prog 45 #[.pointer (some ⟨db, 0, none⟩), .int .i64 i, .slice A 32 c] w (Does F db n (writeS st i zs) (.int .i64 0) w) := by
  obtain ⟨lb, mb, cv, h, f0, f1, f2, f3, f4⟩ := h
  have c0 := h.c0
  obtain ⟨ab, af, rfl, _, hcell⟩ := hg.1 (by omega)
  have hin := Lib.hid (show w.rangeAt ab af (secC zs) from fun j v hv => by
    have hj : j < zs.length := by
      rcases Nat.lt_or_ge j zs.length with h | h
      · exact h
      · rw [List.getElem?_eq_none (by rw [secC_len]; exact h)] at hv; cases hv
    rw [hcell j hj]
    simp [secC, hj] at hv
    simp [hj, hv])
  clear hcell hg
  have hgood := Lib.hid (show goodAt n i = true by unfold goodAt; simp; omega)
  have HY := Lib.hid ((secC_len zs).trans hz)
  have HZ := Lib.hid hz
  clear hz
  have har : ∀ w : World, (Instr.arrayAt 66 (.slice (some ⟨ab, af, none⟩) 32 c)).run Try.prog w = .ok (.pointer (some ⟨ab, af, none⟩)) w := fun w => by
    simp [Instr.arrayAt, run_underlying Try.underlying66]
  go_enter Try.func45, Try.ntmps45
  go_wp2_with fail
  refine (there_any db lb n i _ c0).mono ?_
  rintro e w' ⟨rfl, rfl⟩
  rw [hgood.out]
  go_wp2_with (first | (refine wpList_load_mid rfl 66 (.tmp 16) rfl ab af rfl (secC zs) _ hin.out Try.underlying66 rfl (by rw [HY.out]; exact size_sec) ?_) | (refine wpList_allocT rfl 66 rfl _ 32 (by simp) info_sec2 ?_; intro W1 e1 b1 t1; have T1 := Lib.hid t1; have E1 := Lib.hid e1; clear t1 e1) | (refine wpList_storeT rfl 66 _ (.tmp 17) rfl _ _ (secC zs) rfl rfl (by rw [HY.out]; exact T1.out) (by rw [HY.out]; exact size_sec) (secC_one _) ?_; intro W2 e2))
  have hs2 := size_store e2
  have hs1 := E1.out
  have hW2 : Below w.heap.size w W2 := b1.trans (below_store e2 (by omega) (Nat.le_refl _))
  have hd2 := h.below hW2
  have hr2 := range_store e2 (by rw [HY.out]; exact T1.out)
  have k1 : W2.cell? ⟨db, 1, none⟩ = some cv := hd2.c1
  have kf : W2.frozen? ⟨db, 1, none⟩ = false := hd2.fz
  have hlt0 : db < W2.heap.size := hd2.lt0
  have hrow := Lib.hid hd2.row
  have hHW : W2.heap.size = w.heap.size + 1 := by omega
  have hnb : w.heap.size < W2.heap.size := by omega
  have hdn : db < w.heap.size := h.lt0
  clear hs1 hs2 e2
  have HD2 := Lib.hid hd2
  have HB2 := Lib.hid hW2
  have HHW := Lib.hid hHW
  clear hd2 hW2 hHW T1 E1 b1
  generalize hnbe : w.heap.size = nb at *
  have HNB := Lib.hid hnbe
  clear hnbe
  have hu := Try.underlying66
  have hi61 : (Try.prog.info? 66).map (·.size) = some (secC zs).length := by rw [HY.out]; exact size_sec
  obtain ⟨i0, hi0, hz0, hz1, hz2⟩ := info_parts info_wr
  have hcl := HY.out
  have hf1 := fold_wr i zs HZ.out
  have hC := wrC_len (i, zs) HZ.out
  have hone := Lib.hid (wrC_one (i, zs))
  generalize hCe : wrC (i, zs) = C at *
  have HCE := Lib.hid hCe
  clear hCe
  have hf2 := fold_all C hC
  have k1' : ∀ o : Obj, (W2.alloc o).cell? ⟨db, 1, none⟩ = some cv := fun o => (World.cell?_alloc_lt W2 o _ hlt0).trans k1
  have hne4 : some db ≠ cv.ownBlock := Ne.symm h.ne4
  have hne7 : some nb ≠ cv.ownBlock := fun e => by have := f4 nb (f3 nb e.symm); omega
  have hne8 : nb ≠ db := by omega
  have hlenC := hc
  -- by hand
  refine wp_region_noPanic ?_
  refine wp_region_held_drew (S := fun w' => w'.rangeAt nb 0 (secC zs)) (by kernel_rfl) hr2 (fun hHeld => ?_)
  refine wpAnyH_take (i := 0) (oi := ⟨some 18, _, _, _, _, _⟩) (v := ?v1) rfl (by kernel_rfl) (by kernel_rfl) (by kernel_rfl) (fun _ _ _ h => h) (Or.inl ⟨by rfl, ?y1⟩) (by assumption) ?r1
  case y1 =>
    intro w hSw
    go_simp
    try with_reducible rfl
  simp only [Act.put, List.setIfInBounds_toArray, List.set_cons_zero, List.set_cons_succ]
  refine wpAnyH_take (i := 1) (oi := ⟨some 19, _, _, _, _, _⟩) (v := ?v2) rfl (by kernel_rfl) (by kernel_rfl) (by kernel_rfl) (fun _ _ _ h => h) (Or.inl ⟨by rfl, ?y2⟩) (by assumption) ?r2
  case y2 =>
    intro w hSw
    go_simp
    try with_reducible rfl
  simp only [Act.put, List.setIfInBounds_toArray, List.set_cons_zero, List.set_cons_succ]
  refine wpAnyH_take (i := 2) (oi := ⟨some 20, _, _, _, _, _⟩) (v := ?v3) rfl (by kernel_rfl) (by kernel_rfl) (by kernel_rfl) (fun _ _ _ h => h) (Or.inl ⟨by rfl, ?y3⟩) (by assumption) ?r3
  case y3 =>
    intro w hSw
    go_simp
    try with_reducible rfl
  simp only [Act.put, List.setIfInBounds_toArray, List.set_cons_zero, List.set_cons_succ]
  refine wpAnyH_take (i := 3) (oi := ⟨some 21, _, _, _, _, _⟩) (v := ?v4) rfl (by kernel_rfl) (by kernel_rfl) (by kernel_rfl) (fun _ _ _ h => h) (Or.inl ⟨by rfl, ?y4⟩) (by assumption) ?r4
  case y4 =>
    intro w hSw
    go_simp
    try with_reducible rfl
  simp only [Act.put, List.setIfInBounds_toArray, List.set_cons_zero, List.set_cons_succ]
  refine wpAnyH_take (i := 5) (oi := ⟨some 23, _, _, _, _, _⟩) (v := ?v5) rfl (by kernel_rfl) (by kernel_rfl) (by kernel_rfl) (fun _ _ _ h => h) (Or.inl ⟨by rfl, ?y5⟩) (by assumption) ?r5
  case y5 =>
    intro w hSw
    go_simp
    try with_reducible rfl
  simp only [Act.put, List.setIfInBounds_toArray, List.set_cons_zero, List.set_cons_succ]
  refine wpAnyH_take (i := 6) (oi := ⟨some 24, _, _, _, _, _⟩) (v := _) rfl (by kernel_rfl) (by kernel_rfl) (by kernel_rfl) (fun _ _ _ h => h) (yieldsIf_load_mid (by rfl) _ _ rfl _ _ rfl _ _ (fun w hSw => hSw) hu rfl hi61) (by assumption) ?_
  simp only [Act.put, List.setIfInBounds_toArray, List.set_cons_zero, List.set_cons_succ]
  refine wpAnyH_take (i := 7) (oi := ⟨some 25, _, _, _, _, _⟩) (v := ?v6) rfl (by kernel_rfl) (by kernel_rfl) (by kernel_rfl) (fun _ _ _ h => h) (Or.inl ⟨by rfl, ?y6⟩) (by assumption) ?r6
  case y6 =>
    intro w hSw
    go_simp
    try with_reducible rfl
  simp only [Act.put, List.setIfInBounds_toArray, List.set_cons_zero, List.set_cons_succ]
  refine wpAnyH_ready (rs := [4, 8]) (by kernel_rfl) (by simp) ?_
  refine AllReadyH.cons (o := ⟨some 22, _, _, _, _, _⟩) rfl (fun K hK => ?_) (AllReadyH.cons (o := ⟨some 26, _, _, _, _, _⟩) rfl (fun K hK => ?_) AllReadyH.nil)
  · go_simp
    refine hK.out _ _ ?_ (fun hHeld => ?_)
    · exact hHeld
    clear hK K
    try simp only [Act.put, List.setIfInBounds_toArray, List.set_cons_zero, List.set_cons_succ]
    refine wpAnyH_ready (rs := [8]) (by kernel_rfl) (by simp) ?_
    refine AllReadyH.cons (o := ⟨some 26, _, _, _, _, _⟩) rfl (fun K hK => ?_) AllReadyH.nil
    go_simp
    refine hK.out _ _ ?_ (fun hHeld => ?_)
    · exact World.rangeAt_alloc hr2 _
    clear hK K
    try simp only [Act.put, List.setIfInBounds_toArray, List.set_cons_zero, List.set_cons_succ]
    refine wpAnyH_ready (rs := [9]) (by kernel_rfl) (by simp) ?_
    refine AllReadyH.cons (o := ⟨some 27, _, _, _, _, _⟩) rfl (fun K hK => ?_) AllReadyH.nil
    refine step_append_lies _ (by rfl) _ _ _ (by rfl) 0 68 i0 _ 33 40 Try.underlying59 hi0 hz0 hz1 hz2 (by simp [Value.cells]) (by omega) cv st.cache.length (st.cache.flatMap wrC) (by rfl) ((hrow.out.alloc _).drew) ⟨W2.heap.size, 0, none⟩ 1 1 C (by rfl) (by simp [hC]) (World.news_of_block (cs := C.toArray) (t := 68) (fr := (0, 0)) (heap_alloc_new W2 _)) hone.out (by omega) (by simp only [maxLen]; omega) (by omega) (by omega) (W2.heap.size + 1) (by simp) ?_
    intro gg cap w1 hown1 hgrow hat hlt
    have k1b : w1.cell? ⟨db, 1, none⟩ = some cv := (World.cell?_of_block (a := ⟨db, 1, none⟩) (hgrow.block db (by simp; omega) hne4)).trans (k1' _)
    have kfb : w1.frozen? ⟨db, 1, none⟩ = false := ((World.frozen?_of_block (a := ⟨db, 1, none⟩) (hgrow.block db (by simp; omega) hne4)).trans (World.frozen?_alloc_past _ db 1 hlt0)).trans kf
    refine hK.out _ _ ?_ (fun hHeld => ?_)
    · exact rangeAt_of_block' (hgrow.block nb (by simp; omega) hne7) (World.rangeAt_alloc hr2 _)
    clear hK K
    try simp only [Act.put, List.setIfInBounds_toArray, List.set_cons_zero, List.set_cons_succ]
    refine wpAnyH_take (i := 10) (oi := ⟨some 28, _, _, _, _, _⟩) (v := ?v9) rfl (by kernel_rfl) (by kernel_rfl) (by kernel_rfl) (fun _ _ _ h => h) (Or.inl ⟨by rfl, ?y9⟩) (by assumption) ?r9
    case y9 =>
      intro w hSw
      go_simp
      try with_reducible rfl
    simp only [Act.put, List.setIfInBounds_toArray, List.set_cons_zero, List.set_cons_succ]
    refine wpAnyH_take (i := 11) (oi := ⟨some 29, _, _, _, _, _⟩) (v := ?v10) rfl (by kernel_rfl) (by kernel_rfl) (by kernel_rfl) (fun _ _ _ h => h) (Or.inl ⟨by rfl, ?y10⟩) (by assumption) ?r10
    case y10 =>
      intro w hSw
      go_simp
      try with_reducible rfl
    simp only [Act.put, List.setIfInBounds_toArray, List.set_cons_zero, List.set_cons_succ]
    refine wpAnyH_ready (rs := [12]) (by kernel_rfl) (by simp) ?_
    refine AllReadyH.cons (o := ⟨none, _, _, _, _, _⟩) rfl (fun K hK => ?_) AllReadyH.nil
    go_simp
    refine hK.out _ _ ?_ (fun hHeld => ?_)
    · exact range_setCell_apart hHeld (by simpa using hne8)
    clear hK K
    try simp only [Act.put, List.setIfInBounds_toArray, List.set_cons_zero, List.set_cons_succ]
    refine wpAnyH_done (by kernel_rfl) ?_ _
    refine NoPanic.normal ?_
    clear hf1 hf2 hcl
    have hnn := h.n2
    have k2b : (w1.setCell ⟨db, 1, none⟩ (Value.slice (some ⟨gg, 0, none⟩) (st.cache.length + 1) cap)).cell? ⟨db, 2, none⟩ = some (.map (some mb)) :=
      (World.cell?_setCell_other _ _ _ _ (by simp)).trans ((World.cell?_of_block (a := ⟨db, 2, none⟩) (hgrow.block db (by simp; omega) hne4)).trans ((World.cell?_alloc_lt W2 _ ⟨db, 2, none⟩ hlt0).trans HD2.out.c2))
    have hmb : (w1.setCell ⟨db, 1, none⟩ (Value.slice (some ⟨gg, 0, none⟩) (st.cache.length + 1) cap)).ownsMap Try.prog 3 secR mb st.cache.length (mapOf st.cache) :=
      World.ownsMap.setCell (map_kept HD2.out.map ((hgrow.block mb (by have := HD2.out.map.lt; simp; omega) (Ne.symm HD2.out.ne6)).trans (Below.heap_alloc W2 _ mb HD2.out.map.lt))) (Ne.symm h.ne2) _
    have hrn : (w1.setCell ⟨db, 1, none⟩ (Value.slice (some ⟨gg, 0, none⟩) (st.cache.length + 1) cap)).rangeAt nb 0 (secC zs) := by assumption
    have hlt3 : db < (w1.setCell ⟨db, 1, none⟩ (Value.slice (some ⟨gg, 0, none⟩) (st.cache.length + 1) cap)).heap.size := by have := hgrow.size; simp at this ⊢; omega
    have hnb3 : nb < (w1.setCell ⟨db, 1, none⟩ (Value.slice (some ⟨gg, 0, none⟩) (st.cache.length + 1) cap)).heap.size := by have := hgrow.size; simp at this ⊢; omega
    have hnm : nb ≠ mb := fun e => by have := f4 mb f2; omega
    have HG := Lib.hid (fun (W4 : World) hmp hmv => HD2.out.written (F := F) (i := i) (zs := zs) (W4 := W4) hi HZ.out hgrow (HCE.out ▸ hown1) hat hmp hmv f0 f2 f3)
    generalize (w1.setCell ⟨db, 1, none⟩ (Value.slice (some ⟨gg, 0, none⟩) (st.cache.length + 1) cap)) = W3 at *
    go_wp2
    refine wp_region_noPanic ?_
    refine wp_region_held_drew (S := fun w' => w'.cell? ⟨db, 2, none⟩ = some (.map (some mb)) ∧ w'.rangeAt nb 0 (secC zs)) (by kernel_rfl) ⟨k2b, hrn⟩ (fun hHeld => ?_)
    refine wpAnyH_take (i := 0) (oi := ⟨some 30, _, _, _, _, _⟩) (v := ?v17) rfl (by kernel_rfl) (by kernel_rfl) (by kernel_rfl) (fun _ _ _ h => h) (Or.inl ⟨by rfl, ?y17⟩) (by assumption) ?r17
    case y17 =>
      intro w hSw; obtain ⟨hSw, hSw2⟩ := hSw
      go_simp
      try with_reducible rfl
    simp only [Act.put, List.setIfInBounds_toArray, List.set_cons_zero, List.set_cons_succ]
    refine wpAnyH_take (i := 1) (oi := ⟨some 31, _, _, _, _, _⟩) (v := ?v18) rfl (by kernel_rfl) (by kernel_rfl) (by kernel_rfl) (fun _ _ _ h => h) (Or.inl ⟨by rfl, ?y18⟩) (by assumption) ?r18
    case y18 =>
      intro w hSw; obtain ⟨hSw, hSw2⟩ := hSw
      go_simp
      try with_reducible rfl
    simp only [Act.put, List.setIfInBounds_toArray, List.set_cons_zero, List.set_cons_succ]
    refine wpAnyH_take (i := 2) (oi := ⟨some 32, _, _, _, _, _⟩) (v := ?v19) rfl (by kernel_rfl) (by kernel_rfl) (by kernel_rfl) (fun _ _ _ h => h) (Or.inl ⟨by rfl, ?y19⟩) (by assumption) ?r19
    case y19 =>
      intro w hSw; obtain ⟨hSw, hSw2⟩ := hSw
      go_simp
      try with_reducible rfl
    simp only [Act.put, List.setIfInBounds_toArray, List.set_cons_zero, List.set_cons_succ]
    refine wpAnyH_take (i := 3) (oi := ⟨some 33, _, _, _, _, _⟩) (v := ?v20) rfl (by kernel_rfl) (by kernel_rfl) (by kernel_rfl) (fun _ _ _ h => h) (Or.inl ⟨by rfl, ?y20⟩) (by assumption) ?r20
    case y20 =>
      intro w hSw; obtain ⟨hSw, hSw2⟩ := hSw
      go_simp
      try with_reducible rfl
    simp only [Act.put, List.setIfInBounds_toArray, List.set_cons_zero, List.set_cons_succ]
    refine wpAnyH_take (i := 4) (oi := ⟨some 34, _, _, _, _, _⟩) (v := ?v21) rfl (by kernel_rfl) (by kernel_rfl) (by kernel_rfl) (fun _ _ _ h => h) (Or.inl ⟨by rfl, ?y21⟩) (by assumption) ?r21
    case y21 =>
      intro w hSw; obtain ⟨hSw, hSw2⟩ := hSw
      go_simp
      try with_reducible rfl
    simp only [Act.put, List.setIfInBounds_toArray, List.set_cons_zero, List.set_cons_succ]
    refine wpAnyH_take (i := 5) (oi := ⟨some 35, _, _, _, _, _⟩) (v := _) rfl (by kernel_rfl) (by kernel_rfl) (by kernel_rfl) (fun _ _ _ h => h) (yieldsIf_load_mid (by rfl) _ _ rfl _ _ rfl _ _ (fun w hSw => hSw.2) hu rfl hi61) (by assumption) ?_
    simp only [Act.put, List.setIfInBounds_toArray, List.set_cons_zero, List.set_cons_succ]
    refine wpAnyH_ready (rs := [6]) (by kernel_rfl) (by simp) ?_
    refine AllReadyH.cons (o := ⟨none, _, _, _, _, _⟩) rfl (fun K hK => ?_) AllReadyH.nil
    refine step_mapUpdate (by rfl) _ _ _ _ (by rfl) 3 66 intK Try.underlying60 secR mb st.cache.length (mapOf st.cache) (by rfl) hmb (by simp only [maxLen]; omega) _ _ (keyL i) (by rfl) (by rfl) (keyI i (by omega)) (secD zs) [] (secR_mk zs) ?_
    intro W4 hown4 hgrow4
    refine hK.out _ _ ?_ (fun hHeld => ?_)
    · exact ⟨(World.cell?_of_block (a := ⟨db, 2, none⟩) (hgrow4.block db hlt3 (fun e => h.ne2 (by injection e)))).trans k2b, rangeAt_of_block' (hgrow4.block nb hnb3 (fun e => hnm (by injection e))) hrn⟩
    clear hK K
    refine wpAnyH_done (by kernel_rfl) ?_ _
    refine NoPanic.normal ?_
    have hfin := HG.out W4 ⟨hgrow4.os, hgrow4.tape, hgrow4.output, hgrow4.size, hgrow4.block⟩ hown4
    clear HG
    go_wp2
    go_ret
    refine does_mk hfin.1 ((moves_of_below (F := F) (by rw [HNB.out]; exact HB2.out)).trans hfin.2 (fun _ e => .inl e)) f0 f1 f2 ?_ (by rw [HNB.out]; exact f4)
    intro k hk
    have hk' : gg = k := by simpa [Value.ownBlock] using hk
    subst hk'
    rw [HNB.out]
    exact hat.elim (fun e => .inl (f3 _ e)) (fun e => .inr (by omega))
  · go_simp
    refine hK.out _ _ ?_ (fun hHeld => ?_)
    · exact World.rangeAt_alloc hr2 _
    clear hK K
    try simp only [Act.put, List.setIfInBounds_toArray, List.set_cons_zero, List.set_cons_succ]
    refine wpAnyH_ready (rs := [4]) (by kernel_rfl) (by simp) ?_
    refine AllReadyH.cons (o := ⟨some 22, _, _, _, _, _⟩) rfl (fun K hK => ?_) AllReadyH.nil
    go_simp
    refine hK.out _ _ ?_ (fun hHeld => ?_)
    · exact hHeld
    clear hK K
    try simp only [Act.put, List.setIfInBounds_toArray, List.set_cons_zero, List.set_cons_succ]
    refine wpAnyH_ready (rs := [9]) (by kernel_rfl) (by simp) ?_
    refine AllReadyH.cons (o := ⟨some 27, _, _, _, _, _⟩) rfl (fun K hK => ?_) AllReadyH.nil
    refine step_append_lies _ (by rfl) _ _ _ (by rfl) 0 68 i0 _ 33 40 Try.underlying59 hi0 hz0 hz1 hz2 (by simp [Value.cells]) (by omega) cv st.cache.length (st.cache.flatMap wrC) (by rfl) ((hrow.out.alloc _).drew) ⟨W2.heap.size, 0, none⟩ 1 1 C (by rfl) (by simp [hC]) (World.news_of_block (cs := C.toArray) (t := 68) (fr := (0, 0)) (heap_alloc_new W2 _)) hone.out (by omega) (by simp only [maxLen]; omega) (by omega) (by omega) (W2.heap.size + 1) (by simp) ?_
    intro gg cap w1 hown1 hgrow hat hlt
    have k1b : w1.cell? ⟨db, 1, none⟩ = some cv := (World.cell?_of_block (a := ⟨db, 1, none⟩) (hgrow.block db (by simp; omega) hne4)).trans (k1' _)
    have kfb : w1.frozen? ⟨db, 1, none⟩ = false := ((World.frozen?_of_block (a := ⟨db, 1, none⟩) (hgrow.block db (by simp; omega) hne4)).trans (World.frozen?_alloc_past _ db 1 hlt0)).trans kf
    refine hK.out _ _ ?_ (fun hHeld => ?_)
    · exact rangeAt_of_block' (hgrow.block nb (by simp; omega) hne7) (World.rangeAt_alloc hr2 _)
    clear hK K
    try simp only [Act.put, List.setIfInBounds_toArray, List.set_cons_zero, List.set_cons_succ]
    refine wpAnyH_take (i := 10) (oi := ⟨some 28, _, _, _, _, _⟩) (v := ?v14) rfl (by kernel_rfl) (by kernel_rfl) (by kernel_rfl) (fun _ _ _ h => h) (Or.inl ⟨by rfl, ?y14⟩) (by assumption) ?r14
    case y14 =>
      intro w hSw
      go_simp
      try with_reducible rfl
    simp only [Act.put, List.setIfInBounds_toArray, List.set_cons_zero, List.set_cons_succ]
    refine wpAnyH_take (i := 11) (oi := ⟨some 29, _, _, _, _, _⟩) (v := ?v15) rfl (by kernel_rfl) (by kernel_rfl) (by kernel_rfl) (fun _ _ _ h => h) (Or.inl ⟨by rfl, ?y15⟩) (by assumption) ?r15
    case y15 =>
      intro w hSw
      go_simp
      try with_reducible rfl
    simp only [Act.put, List.setIfInBounds_toArray, List.set_cons_zero, List.set_cons_succ]
    refine wpAnyH_ready (rs := [12]) (by kernel_rfl) (by simp) ?_
    refine AllReadyH.cons (o := ⟨none, _, _, _, _, _⟩) rfl (fun K hK => ?_) AllReadyH.nil
    go_simp
    refine hK.out _ _ ?_ (fun hHeld => ?_)
    · exact range_setCell_apart hHeld (by simpa using hne8)
    clear hK K
    try simp only [Act.put, List.setIfInBounds_toArray, List.set_cons_zero, List.set_cons_succ]
    refine wpAnyH_done (by kernel_rfl) ?_ _
    refine NoPanic.normal ?_
    clear hf1 hf2 hcl
    have hnn := h.n2
    have k2b : (w1.setCell ⟨db, 1, none⟩ (Value.slice (some ⟨gg, 0, none⟩) (st.cache.length + 1) cap)).cell? ⟨db, 2, none⟩ = some (.map (some mb)) :=
      (World.cell?_setCell_other _ _ _ _ (by simp)).trans ((World.cell?_of_block (a := ⟨db, 2, none⟩) (hgrow.block db (by simp; omega) hne4)).trans ((World.cell?_alloc_lt W2 _ ⟨db, 2, none⟩ hlt0).trans HD2.out.c2))
    have hmb : (w1.setCell ⟨db, 1, none⟩ (Value.slice (some ⟨gg, 0, none⟩) (st.cache.length + 1) cap)).ownsMap Try.prog 3 secR mb st.cache.length (mapOf st.cache) :=
      World.ownsMap.setCell (map_kept HD2.out.map ((hgrow.block mb (by have := HD2.out.map.lt; simp; omega) (Ne.symm HD2.out.ne6)).trans (Below.heap_alloc W2 _ mb HD2.out.map.lt))) (Ne.symm h.ne2) _
    have hrn : (w1.setCell ⟨db, 1, none⟩ (Value.slice (some ⟨gg, 0, none⟩) (st.cache.length + 1) cap)).rangeAt nb 0 (secC zs) := by assumption
    have hlt3 : db < (w1.setCell ⟨db, 1, none⟩ (Value.slice (some ⟨gg, 0, none⟩) (st.cache.length + 1) cap)).heap.size := by have := hgrow.size; simp at this ⊢; omega
    have hnb3 : nb < (w1.setCell ⟨db, 1, none⟩ (Value.slice (some ⟨gg, 0, none⟩) (st.cache.length + 1) cap)).heap.size := by have := hgrow.size; simp at this ⊢; omega
    have hnm : nb ≠ mb := fun e => by have := f4 mb f2; omega
    have HG := Lib.hid (fun (W4 : World) hmp hmv => HD2.out.written (F := F) (i := i) (zs := zs) (W4 := W4) hi HZ.out hgrow (HCE.out ▸ hown1) hat hmp hmv f0 f2 f3)
    generalize (w1.setCell ⟨db, 1, none⟩ (Value.slice (some ⟨gg, 0, none⟩) (st.cache.length + 1) cap)) = W3 at *
    go_wp2
    refine wp_region_noPanic ?_
    refine wp_region_held_drew (S := fun w' => w'.cell? ⟨db, 2, none⟩ = some (.map (some mb)) ∧ w'.rangeAt nb 0 (secC zs)) (by kernel_rfl) ⟨k2b, hrn⟩ (fun hHeld => ?_)
    refine wpAnyH_take (i := 0) (oi := ⟨some 30, _, _, _, _, _⟩) (v := ?v517) rfl (by kernel_rfl) (by kernel_rfl) (by kernel_rfl) (fun _ _ _ h => h) (Or.inl ⟨by rfl, ?y517⟩) (by assumption) ?r517
    case y517 =>
      intro w hSw; obtain ⟨hSw, hSw2⟩ := hSw
      go_simp
      try with_reducible rfl
    simp only [Act.put, List.setIfInBounds_toArray, List.set_cons_zero, List.set_cons_succ]
    refine wpAnyH_take (i := 1) (oi := ⟨some 31, _, _, _, _, _⟩) (v := ?v518) rfl (by kernel_rfl) (by kernel_rfl) (by kernel_rfl) (fun _ _ _ h => h) (Or.inl ⟨by rfl, ?y518⟩) (by assumption) ?r518
    case y518 =>
      intro w hSw; obtain ⟨hSw, hSw2⟩ := hSw
      go_simp
      try with_reducible rfl
    simp only [Act.put, List.setIfInBounds_toArray, List.set_cons_zero, List.set_cons_succ]
    refine wpAnyH_take (i := 2) (oi := ⟨some 32, _, _, _, _, _⟩) (v := ?v519) rfl (by kernel_rfl) (by kernel_rfl) (by kernel_rfl) (fun _ _ _ h => h) (Or.inl ⟨by rfl, ?y519⟩) (by assumption) ?r519
    case y519 =>
      intro w hSw; obtain ⟨hSw, hSw2⟩ := hSw
      go_simp
      try with_reducible rfl
    simp only [Act.put, List.setIfInBounds_toArray, List.set_cons_zero, List.set_cons_succ]
    refine wpAnyH_take (i := 3) (oi := ⟨some 33, _, _, _, _, _⟩) (v := ?v520) rfl (by kernel_rfl) (by kernel_rfl) (by kernel_rfl) (fun _ _ _ h => h) (Or.inl ⟨by rfl, ?y520⟩) (by assumption) ?r520
    case y520 =>
      intro w hSw; obtain ⟨hSw, hSw2⟩ := hSw
      go_simp
      try with_reducible rfl
    simp only [Act.put, List.setIfInBounds_toArray, List.set_cons_zero, List.set_cons_succ]
    refine wpAnyH_take (i := 4) (oi := ⟨some 34, _, _, _, _, _⟩) (v := ?v521) rfl (by kernel_rfl) (by kernel_rfl) (by kernel_rfl) (fun _ _ _ h => h) (Or.inl ⟨by rfl, ?y521⟩) (by assumption) ?r521
    case y521 =>
      intro w hSw; obtain ⟨hSw, hSw2⟩ := hSw
      go_simp
      try with_reducible rfl
    simp only [Act.put, List.setIfInBounds_toArray, List.set_cons_zero, List.set_cons_succ]
    refine wpAnyH_take (i := 5) (oi := ⟨some 35, _, _, _, _, _⟩) (v := _) rfl (by kernel_rfl) (by kernel_rfl) (by kernel_rfl) (fun _ _ _ h => h) (yieldsIf_load_mid (by rfl) _ _ rfl _ _ rfl _ _ (fun w hSw => hSw.2) hu rfl hi61) (by assumption) ?_
    simp only [Act.put, List.setIfInBounds_toArray, List.set_cons_zero, List.set_cons_succ]
    refine wpAnyH_ready (rs := [6]) (by kernel_rfl) (by simp) ?_
    refine AllReadyH.cons (o := ⟨none, _, _, _, _, _⟩) rfl (fun K hK => ?_) AllReadyH.nil
    refine step_mapUpdate (by rfl) _ _ _ _ (by rfl) 3 66 intK Try.underlying60 secR mb st.cache.length (mapOf st.cache) (by rfl) hmb (by simp only [maxLen]; omega) _ _ (keyL i) (by rfl) (by rfl) (keyI i (by omega)) (secD zs) [] (secR_mk zs) ?_
    intro W4 hown4 hgrow4
    refine hK.out _ _ ?_ (fun hHeld => ?_)
    · exact ⟨(World.cell?_of_block (a := ⟨db, 2, none⟩) (hgrow4.block db hlt3 (fun e => h.ne2 (by injection e)))).trans k2b, rangeAt_of_block' (hgrow4.block nb hnb3 (fun e => hnm (by injection e))) hrn⟩
    clear hK K
    refine wpAnyH_done (by kernel_rfl) ?_ _
    refine NoPanic.normal ?_
    have hfin := HG.out W4 ⟨hgrow4.os, hgrow4.tape, hgrow4.output, hgrow4.size, hgrow4.block⟩ hown4
    clear HG
    go_wp2
    go_ret
    refine does_mk hfin.1 ((moves_of_below (F := F) (by rw [HNB.out]; exact HB2.out)).trans hfin.2 (fun _ e => .inl e)) f0 f1 f2 ?_ (by rw [HNB.out]; exact f4)
    intro k hk
    have hk' : gg = k := by simpa [Value.ownBlock] using hk
    subst hk'
    rw [HNB.out]
    exact hat.elim (fun e => .inl (f3 _ e)) (fun e => .inr (by omega))

theorem DiskAt.same {w : World} {F : Nat → Prop} {db n : Nat} {st : St} (h : DiskAt w F db n st) : DiskAt w (grow F w w) db n st := by
  obtain ⟨lb, mb, cv, h, f0, f1, f2, f3, f4⟩ := h
  exact ⟨lb, mb, cv, h, .inl f0, .inl f1, .inl f2, fun k hk => .inl (f3 k hk), fun k hk => hk.elim (f4 k) (fun e => e.2)⟩
def writeE (n : Nat) (i : Int) (l : Nat) : Int := if goodAt n i then (if l = 32 then 0 else 10) else 11
def writeT (n : Nat) (st : St) (i : Int) (zs : List Int) : St := if goodAt n i then (if zs.length = 32 then writeS st i.toNat zs else st) else st
set_option maxRecDepth 100000 in
set_option maxHeartbeats 400000 in
theorem write_range (F : Nat → Prop) (db n : Nat) (i : Int) (st : St) (A : Option Addr) (l c : Nat) (w : World) (h : DiskAt w F db n st) (hg : goodAt n i = false) :
    Calls Try.prog 45 #[.pointer (some ⟨db, 0, none⟩), .int .i64 i, .slice A l c] w (Does F db n st (.int .i64 11) w) := by
  have hs := Lib.hid h.same
  obtain ⟨lb, mb, cv, h, f0, f1, f2, f3, f4⟩ := h
  have c0 := h.c0
  have HG := Lib.hid hg
  clear hg
  go_enter Try.func45, Try.ntmps45
  go_wp2_with fail
  refine (there_any db lb n i _ c0).mono ?_
  rintro e w' ⟨rfl, rfl⟩
  rw [HG.out]
  go_wp2
  go_ret
  exact ⟨rfl, hs.out, Moves.refl _ _⟩
set_option maxRecDepth 100000 in
set_option maxHeartbeats 400000 in
theorem write_form (F : Nat → Prop) (db n : Nat) (i : Int) (st : St) (A : Option Addr) (l c : Nat) (w : World) (h : DiskAt w F db n st) (hg : goodAt n i = true) (hl : l ≠ 32) :
    Calls Try.prog 45 #[.pointer (some ⟨db, 0, none⟩), .int .i64 i, .slice A l c] w (Does F db n st (.int .i64 10) w) := by
  have hs := Lib.hid h.same
  obtain ⟨lb, mb, cv, h, f0, f1, f2, f3, f4⟩ := h
  have c0 := h.c0
  have HG := Lib.hid hg
  have hne : ((l : Int) != 32) = true := by simp; omega
  clear hg
  go_enter Try.func45, Try.ntmps45
  go_wp2_with fail
  refine (there_any db lb n i _ c0).mono ?_
  rintro e w' ⟨rfl, rfl⟩
  rw [HG.out]
  go_wp2
  go_ret
  exact ⟨rfl, hs.out, Moves.refl _ _⟩
theorem write_any (F : Nat → Prop) (db n : Nat) (i : Int) (st st' : St) (A : Option Addr) (l c : Nat) (zs : List Int) (q : Int) (w : World) (h : DiskAt w F db n st) (hl : zs.length = l) (hg : Good A c zs w) (hc : st.cache.length ≤ 999) (hq : writeE n i l = q) (hst : writeT n st i zs = st') :
    Calls Try.prog 45 #[.pointer (some ⟨db, 0, none⟩), .int .i64 i, .slice A l c] w (Does F db n st' (.int .i64 q) w) := by
  subst hq hst
  unfold writeE writeT
  cases hgo : goodAt n i with
  | false => exact write_range F db n i st A l c w h hgo
  | true =>
    by_cases h32 : l = 32
    · subst h32
      simp only [hl, if_true]
      have hi : 0 ≤ i ∧ i < n := by simpa [goodAt] using hgo
      have := write_ok F db n i.toNat st A c zs w h (by omega) hl hg hc
      rwa [Int.toNat_of_nonneg hi.1] at this
    · simp only [hl, h32, if_true, if_false]
      exact write_form F db n i st A l c w h hgo h32
theorem writeT_wf {n : Nat} {st : St} (h : Wf n st) (i : Int) (zs : List Int) : Wf n (writeT n st i zs) := by
  unfold writeT
  split
  · rename_i hg
    have hi : 0 ≤ i ∧ i < n := by simpa [goodAt] using hg
    split
    · rename_i hz; exact h.write (by omega) hz
    · exact h
  · exact h
theorem writeT_len (n : Nat) (st : St) (i : Int) (zs : List Int) : (writeT n st i zs).cache.length ≤ st.cache.length + 1 := by
  unfold writeT; split <;> (try split) <;> simp [writeS]
end Go.Proofs.Ytdmkkfpbgpijjaa
namespace Go.Proofs.Ytdmkkfpbgpijjaa
open Go.RowKit Go.Deep Go.Maps
attribute [local go_sem ↓] Go.wp_at_zero Go.wp_at_succ

theorem read_at (F : Nat → Prop) (db n i : Nat) (st : St) (zs : List Int) (w : World) (h : DiskAt w F db n st) (hi : i < n) (hz : nowAt st i = zs) :
    Calls Try.prog 39 #[.pointer (some ⟨db, 0, none⟩), .int .i64 i] w (ReadSays zs w) := by
  obtain ⟨lb, mb, cv, h, _⟩ := h
  exact read_ok db lb mb cv n i st zs hz w h hi
theorem read_out (F : Nat → Prop) (db n : Nat) (i : Int) (st : St) (w : World) (h : DiskAt w F db n st) (hg : goodAt n i = false) :
    Calls Try.prog 39 #[.pointer (some ⟨db, 0, none⟩), .int .i64 i] w fun e w' => e = .returned (.tuple #[.slice none 0 0, .int .i64 11]) ∧ w = w' := by
  obtain ⟨lb, mb, cv, h, _⟩ := h
  exact read_no db lb mb cv n i st w h hg
theorem loose_at (F : Nat → Prop) (db n l : Nat) (st : St) (w : World) (h : DiskAt w F db n st) (hl : st.cache.length = l) :
    Calls Try.prog 19 #[.pointer (some ⟨db, 0, none⟩)] w fun e w' => e = .returned (.int .i64 l) ∧ w = w' := by
  obtain ⟨lb, mb, cv, h, _⟩ := h
  obtain ⟨A, c, rfl, _⟩ := row_shape h.row
  subst hl
  exact loose_any db _ c A w h.c1
theorem sectors_at (F : Nat → Prop) (db n : Nat) (st : St) (w : World) (h : DiskAt w F db n st) :
    Calls Try.prog 36 #[.pointer (some ⟨db, 0, none⟩)] w fun e w' => e = .returned (.int .i64 n) ∧ w = w' := by
  obtain ⟨lb, mb, cv, h, _⟩ := h
  exact sectors_any db lb n w h.c0

set_option maxRecDepth 100000 in
theorem info_bs : (Try.prog.info? 52).map (fun i => (i.zero, i.size, i.bytes)) = some (some (.slice none 0 0), 1, 24) := by kernel_rfl
theorem ownsD_lit (w : World) (B : Nat) (hB : B ≤ w.heap.size) : Owns B (w.alloc (.cells #[] 5)) (.slice (some ⟨w.heap.size, 0, none⟩) 0 0) [] := World.ownsRow_lit w #[] 0 hB (by simp) (by simp)
/-! ### what the statements take -/
structure CallD where
  what : Int
  at_ : Int
  tear : Int
  A : Option Addr
  c : Nat
  zs : List Int
def Good0 (B : Nat) (w : World) (A : Option Addr) (c : Nat) (zs : List Int) : Prop := Ints .u8 B w A zs ∧ zs.length ≤ c ∧ (A = none → c = 0)
theorem Good0.good {B : Nat} {w : World} {A : Option Addr} {c : Nat} {zs : List Int} (h : Good0 B w A c zs) (hB : B ≤ w.heap.size) : Good A c zs w := ⟨h.1.more hB, h.2⟩
theorem Good0.below {B : Nat} {w w' : World} {A : Option Addr} {c : Nat} {zs : List Int} (h : Good0 B w A c zs) (hb : Below B w w') : Good0 B w' A c zs := ⟨h.1.below hb (Nat.le_refl _), h.2⟩
def CallAt (B : Nat) (w : World) (b f : Nat) (x : CallD) : Prop :=
  w.cell? ⟨b, f, none⟩ = some (.int .i64 x.what) ∧ w.cell? ⟨b, f + 1, none⟩ = some (.int .i64 x.at_) ∧ w.cell? ⟨b, f + 2, none⟩ = some (.int .i64 x.tear) ∧ w.cell? ⟨b, f + 3, none⟩ = some (.slice x.A x.zs.length x.c) ∧ Good0 B w x.A x.c x.zs
/-- A list of calls that came in. -/
def CallsAt (B : Nat) (w : World) (A : Option Addr) (cs : List CallD) : Prop := 0 < cs.length → ∃ b off, A = some ⟨b, off, none⟩ ∧ b < B ∧ ∀ j x, cs[j]? = some x → CallAt B w b (off + j * 4) x
theorem CallAt.below {B : Nat} {w w' : World} {b f : Nat} {x : CallD} (h : CallAt B w b f x) (hb : Below B w w') (hB : b < B) : CallAt B w' b f x := by
  have hc : ∀ o, w'.cell? ⟨b, o, none⟩ = w.cell? ⟨b, o, none⟩ := fun o => hb.cell (p := ⟨b, o, none⟩) hB
  obtain ⟨h1, h2, h3, h4, h5⟩ := h
  exact ⟨(hc _).trans h1, (hc _).trans h2, (hc _).trans h3, (hc _).trans h4, h5.below hb⟩
theorem CallsAt.below {B : Nat} {w w' : World} {A : Option Addr} {cs : List CallD} (h : CallsAt B w A cs) (hb : Below B w w') : CallsAt B w' A cs := fun h0 => by
  obtain ⟨b, off, e, hB, hx⟩ := h h0
  exact ⟨b, off, e, hB, fun j x hj => (hx j x hj).below hb hB⟩
def greatB (cs : List CallD) : Bool := decide (80 < cs.length) || cs.any fun x => decide (100 < x.zs.length)
theorem great_no {cs : List CallD} (h : greatB cs = false) : cs.length ≤ 80 ∧ ∀ x ∈ cs, x.zs.length ≤ 100 := by
  simp only [greatB, Bool.or_eq_false_iff, decide_eq_false_iff_not, List.any_eq_false, decide_eq_true_eq] at h
  exact ⟨by omega, fun x hx => by have := h.2 x hx; omega⟩
def doS (n : Nat) (st : St) (x : CallD) : St := if x.what = 0 then writeT n st x.at_ x.zs else if x.what = 1 then flushS st else if x.what = 2 then crashS st x.at_ x.tear else st
theorem doS_len (n : Nat) (st : St) (x : CallD) : (doS n st x).cache.length ≤ st.cache.length + 1 := by
  unfold doS
  split
  · exact writeT_len _ _ _ _
  · split
    · simp [flushS]
    · split
      · simp [crashS]
      · omega
def callV (x : CallD) : Value := .agg #[.int .i64 x.what, .int .i64 x.at_, .int .i64 x.tear, .slice x.A x.zs.length x.c]
theorem does_more {F : Nat → Prop} {db n : Nat} {st : St} {v : Value} {w w1 w2 : World} {e : Ending} (hb : Below w.heap.size w w1) (h : Does F db n st v w1 e w2) (hF : ∀ k, F k → k < w.heap.size) : Does F db n st v w e w2 := by
  obtain ⟨h1, ⟨lb, mb, cv, hd, f0, f1, f2, f3, f4⟩, h3⟩ := h
  have hs := hb.size
  have hg : ∀ k, grow F w1 w2 k → grow F w w2 k := fun k hk => hk.elim .inl (fun e => .inr ⟨by omega, e.2⟩)
  refine ⟨h1, ⟨lb, mb, cv, hd, hg _ f0, hg _ f1, hg _ f2, fun k hk => hg _ (f3 k hk), fun k hk => ?_⟩, (moves_of_below hb).trans h3 (fun _ e => .inl e)⟩
  rcases hk with hk | hk
  · exact Nat.lt_of_lt_of_le (hF k hk) (Nat.le_trans hs h3.size)
  · exact hk.2
def runS (n : Nat) (cs : List CallD) : St := cs.foldl (doS n) (newS n)
theorem runS_snoc (n : Nat) (cs : List CallD) (x : CallD) : runS n (cs ++ [x]) = doS n (runS n cs) x := by simp [runS, List.foldl_append]
theorem runS_len (n : Nat) (cs : List CallD) : (runS n cs).cache.length ≤ cs.length := by
  suffices h : ∀ st : St, (cs.foldl (doS n) st).cache.length ≤ st.cache.length + cs.length by
    have := h (newS n)
    simpa [newS, runS] using this
  induction cs with
  | nil => intro st; simp
  | cons x cs ih =>
    intro st
    have h1 := ih (doS n st x)
    have h2 := doS_len n st x
    simp only [List.foldl_cons, List.length_cons]
    omega
def BeginSays (n : Nat) (st : St) (w : World) (e : Ending) (w' : World) : Prop := ∃ F db, e = .returned (.pointer (some ⟨db, 0, none⟩)) ∧ DiskAt w' F db n st ∧ (∀ k, F k → w.heap.size ≤ k) ∧ Below w.heap.size w w'
theorem owns_cell {B g c : Nat} {w : World} {zs : List Int} (h : Owns B w (.slice (some ⟨g, 0, none⟩) zs.length c) zs) {j : Nat} (hj : j < zs.length) : w.cell? ⟨g, j, none⟩ = some (.int .u8 (zs[j]?.getD 0)) ∧ w.frozen? ⟨g, j, none⟩ = false := by
  rcases h.2 with ⟨h', _⟩ | ⟨g', cap', cur, h', hb, hg, hnc, hcm, hcs, htake⟩
  · simp at h'
  · simp only [Value.slice.injEq, Option.some.injEq, Addr.mk.injEq, and_true, true_and] at h'
    obtain ⟨rfl, rfl⟩ := h'
    refine ⟨?_, by simp [World.frozen?, hg]⟩
    have hc := World.ownsRow.cells h (g := g) rfl j (.int .u8 (zs[j]?.getD 0)) (by simp [hj])
    rwa [Go.WideShapes.add_plain, Nat.zero_add] at hc
theorem made_one (x : Value) (n : Nat) : (madeCells #[x] n).toList = List.replicate n x := by
  apply List.ext_getElem?
  intro j
  by_cases hj : j < n <;> simp [madeCells, Nat.mod_one, hj]
def filled (z : Int) (j : Nat) : List Int := List.replicate j z ++ List.replicate (32 - j) 0
theorem filled_len (z : Int) (j : Nat) (hj : j ≤ 32) : (filled z j).length = 32 := by simp [filled]; omega
theorem filled_set (z : Int) (j : Nat) (hj : j < 32) : (filled z j).set j z = filled z (j + 1) := by
  unfold filled
  rw [List.set_append_right _ _ (by simp), show 32 - j = (32 - (j + 1)) + 1 by omega, List.replicate_succ, List.length_replicate, Nat.sub_self, List.set_cons_zero, List.replicate_succ' (n := j), List.append_assoc]
  rfl
end Go.Proofs.Ytdmkkfpbgpijjaa
namespace Go.Proofs.Ytdmkkfpbgpijjaa
open Go.RowKit

theorem turn_lt (u : Nat) (k : Int) (h : u < 18446744073709551616) : turnI u k < 18446744073709551616 := rotK_lt u _ h
theorem turn_congr (u : Nat) (a b : Int) (h : a % 64 = b % 64) : turnI u a = turnI u b := by unfold turnI; rw [h]
theorem turn_turn (u : Nat) (a b : Int) (h : u < 18446744073709551616) : turnI (turnI u a) b = turnI u (a + b) := by
  unfold turnI
  rw [rotK_add, ← rotK_mod u ((a % 64).toNat + (b % 64).toNat) h]
  congr 1
  omega
theorem turn_zero (u : Nat) (a : Int) (h : a % 64 = 0) : turnI u a = u := by unfold turnI; rw [h]; rfl
theorem tmod64 (a : Int) : -64 < a.tmod 64 ∧ a.tmod 64 < 64 ∧ a.tmod 64 % 64 = a % 64 := by
  have h1 := Int.lt_tmod_of_pos a (b := 64) (by decide)
  have h2 := Int.tmod_lt_of_pos a (b := 64) (by decide)
  have h3 := Int.tmod_def a 64
  omega
theorem turn_back (u : Nat) (a : Int) (h : u < 18446744073709551616) : turnI (turnI u a) (-(a.tmod 64)) = u := by
  rw [turn_turn u _ _ h]
  have := tmod64 a
  exact turn_zero u _ (by omega)
theorem turn_sum (u : Nat) (a b : Int) (h : u < 18446744073709551616) : turnI (turnI u a) b = turnI u (a.tmod 64 + b.tmod 64) := by
  rw [turn_turn u _ _ h]
  have := tmod64 a
  have := tmod64 b
  exact turn_congr u _ _ (by omega)
theorem pc_turn (u : Nat) (k : Int) (h : u < 18446744073709551616) : pc (turnI u k) = pc u := pc_rotK u _ h
theorem ctz_zero_iff (u : Nat) (h : u < 18446744073709551616) : (((u : Int) == 0) == (((Lib.ctz 64 u : Nat) : Int) == 64)) = true := by
  by_cases h0 : u = 0
  · subst h0; decide
  · obtain ⟨m, _, hl⟩ := ctz_spec u h0 h
    have a1 : ((u : Int) == 0) = false := by simp; omega
    have a2 : (((Lib.ctz 64 u : Nat) : Int) == 64) = false := by simp; omega
    rw [a1, a2]; rfl

theorem xor_parts (k a b c d : Nat) (hb : b < 2 ^ k) (hd : d < 2 ^ k) : (a * 2 ^ k + b) ^^^ (c * 2 ^ k + d) = (a ^^^ c) * 2 ^ k + (b ^^^ d) := by
  have p : 0 < 2 ^ k := Nat.two_pow_pos k
  have h1 := Nat.xor_div_two_pow (a := a * 2 ^ k + b) (b := c * 2 ^ k + d) (n := k)
  have h2 := Nat.xor_mod_two_pow (a := a * 2 ^ k + b) (b := c * 2 ^ k + d) (n := k)
  have e1 : (a * 2 ^ k + b) / 2 ^ k = a := by rw [Nat.mul_comm, Nat.mul_add_div p, Nat.div_eq_of_lt hb, Nat.add_zero]
  have e2 : (c * 2 ^ k + d) / 2 ^ k = c := by rw [Nat.mul_comm, Nat.mul_add_div p, Nat.div_eq_of_lt hd, Nat.add_zero]
  have e3 : (a * 2 ^ k + b) % 2 ^ k = b := by rw [Nat.mul_comm, Nat.mul_add_mod, Nat.mod_eq_of_lt hb]
  have e4 : (c * 2 ^ k + d) % 2 ^ k = d := by rw [Nat.mul_comm, Nat.mul_add_mod, Nat.mod_eq_of_lt hd]
  rw [e1, e2] at h1
  rw [e3, e4] at h2
  have h3 := Nat.mod_add_div ((a * 2 ^ k + b) ^^^ (c * 2 ^ k + d)) (2 ^ k)
  rw [h1, h2, Nat.mul_comm (2 ^ k)] at h3
  omega
/-- The higher bits, and the rest. -/
theorem high_low (u k : Nat) : u ^^^ (u / 2 ^ k * 2 ^ k) = u % 2 ^ k := by
  have p : 0 < 2 ^ k := Nat.two_pow_pos k
  have h := xor_parts k (u / 2 ^ k) (u % 2 ^ k) (u / 2 ^ k) 0 (Nat.mod_lt _ p) p
  have e : u / 2 ^ k * 2 ^ k + u % 2 ^ k = u := by have := Nat.div_add_mod u (2 ^ k); rw [Nat.mul_comm] at this; exact this
  rw [e, Nat.add_zero, Nat.xor_self, Nat.xor_zero, Nat.zero_mul, Nat.zero_add] at h
  exact h
theorem pc_high_low (u k : Nat) : pc (u / 2 ^ k * 2 ^ k) + pc (u % 2 ^ k) = pc u := by
  have p : 0 < 2 ^ k := Nat.two_pow_pos k
  have h1 := pc_parts k (u / 2 ^ k) 0 p
  have h2 := pc_parts k (u / 2 ^ k) (u % 2 ^ k) (Nat.mod_lt _ p)
  have e : u / 2 ^ k * 2 ^ k + u % 2 ^ k = u := by have := Nat.div_add_mod u (2 ^ k); rw [Nat.mul_comm] at this; exact this
  rw [Nat.add_zero, pc_zero] at h1
  rw [e] at h2
  omega
/-- Without its lowest bit a word has one less, and no lower one. -/
theorem rest_low (u : Nat) (h0 : u ≠ 0) (h : u < 18446744073709551616) :
    u ^^^ 2 ^ Lib.ctz 64 u < 18446744073709551616 ∧ pc (u ^^^ 2 ^ Lib.ctz 64 u) + 1 = pc u ∧ Lib.ctz 64 u < Lib.ctz 64 (u ^^^ 2 ^ Lib.ctz 64 u) ∧ Lib.ctz 64 u < 64 := by
  obtain ⟨m, hm, hl⟩ := ctz_spec u h0 h
  generalize Lib.ctz 64 u = j at *
  have pj : 0 < 2 ^ j := Nat.two_pow_pos j
  have lj : 2 ^ j < 2 ^ (j + 1) := Nat.pow_lt_pow_right (by decide) (by omega)
  have eu : u = m * 2 ^ (j + 1) + 2 ^ j := by rw [hm, Nat.pow_succ, Nat.mul_add, Nat.mul_one, Nat.mul_comm m, Nat.mul_assoc]
  have hx := xor_parts (j + 1) m (2 ^ j) 0 (2 ^ j) lj lj
  rw [← eu, Nat.zero_mul, Nat.zero_add, Nat.xor_zero, Nat.xor_self, Nat.add_zero] at hx
  have hlt : u ^^^ 2 ^ j < 18446744073709551616 := by rw [hx]; omega
  refine ⟨hlt, ?_, ?_, hl⟩
  · have h1 := pc_parts (j + 1) m 0 (Nat.two_pow_pos _)
    have h2 := pc_parts (j + 1) m (2 ^ j) lj
    have h3 := pc_parts j 1 0 pj
    have h4 : pc 1 = 1 := by rw [pc_step]; simp [pc_zero]
    rw [Nat.add_zero, pc_zero] at h1 h3
    rw [Nat.one_mul, h4] at h3
    rw [← eu] at h2
    rw [hx]
    omega
  · by_cases hm0 : m = 0
    · subst hm0
      rw [hx, Nat.zero_mul]
      exact hl
    · have hne : u ^^^ 2 ^ j ≠ 0 := by
        rw [hx]
        have := Nat.mul_pos (Nat.pos_of_ne_zero hm0) (Nat.two_pow_pos (j + 1))
        omega
      obtain ⟨m', hm', _⟩ := ctz_spec _ hne hlt
      generalize Lib.ctz 64 (u ^^^ 2 ^ j) = i at *
      rcases Nat.lt_or_ge j i with hlt | hge
      · exact hlt
      · exfalso
        obtain ⟨d, rfl⟩ : ∃ d, j = i + d := ⟨j - i, by omega⟩
        rw [hx, show i + d + 1 = i + (d + 1) by omega, Nat.pow_add, ← Nat.mul_assoc, Nat.mul_comm m, Nat.mul_assoc] at hm'
        have := Nat.eq_of_mul_eq_mul_left (Nat.two_pow_pos i) hm'
        rw [Nat.pow_succ, ← Nat.mul_assoc] at this
        omega
end Go.Proofs.Ytdmkkfpbgpijjaa
namespace Go.Proofs.Ytdmkkfpbgpijjaa

/-- The sum is doubled, and brought back below 2 to 24. -/
def dbl (s : Nat) : Nat := if 16777216 ≤ 2 * s then (2 * s) ^^^ 25578747 else 2 * s
theorem dbl_low (s : Nat) (h : s < 8388608) : dbl s = 2 * s := by unfold dbl; rw [if_neg (by omega)]
theorem dbl_high (l : Nat) (h : l < 8388608) : dbl (8388608 + l) = (2 * l) ^^^ 8801531 := by
  unfold dbl
  rw [if_pos (by omega)]
  have hx := xor_parts 24 1 (2 * l) 1 8801531 (by omega) (by omega)
  rw [show 1 * 2 ^ 24 + 2 * l = 2 * (8388608 + l) by omega, show 1 * 2 ^ 24 + 8801531 = 25578747 by decide, Nat.xor_self, Nat.zero_mul, Nat.zero_add] at hx
  exact hx
theorem xor24 (a b : Nat) (ha : a < 16777216) (hb : b < 16777216) : a ^^^ b < 16777216 := Nat.xor_lt_two_pow (n := 24) ha hb
theorem dbl_lt (s : Nat) (h : s < 16777216) : dbl s < 16777216 := by
  by_cases h2 : s < 8388608
  · rw [dbl_low s h2]; omega
  · rw [show s = 8388608 + (s - 8388608) by omega, dbl_high _ (by omega)]
    exact xor24 _ _ (by omega) (by omega)
theorem two_xor (a b : Nat) : 2 * (a ^^^ b) = (2 * a) ^^^ (2 * b) := by
  have := xor_parts 1 a 0 b 0 (by decide) (by decide)
  rw [Nat.xor_self] at this
  rw [show 2 * a = a * 2 ^ 1 + 0 by omega, show 2 * b = b * 2 ^ 1 + 0 by omega, this]
  omega
theorem xor_swap (a b c d : Nat) : (a ^^^ b) ^^^ (c ^^^ d) = (a ^^^ c) ^^^ (b ^^^ d) := by
  rw [Nat.xor_assoc, Nat.xor_assoc, ← Nat.xor_assoc b c d, Nat.xor_comm b c, Nat.xor_assoc c b d]
theorem dbl_lin (a b : Nat) (ha : a < 16777216) (hb : b < 16777216) : dbl (a ^^^ b) = dbl a ^^^ dbl b := by
  have key : ∀ x y, x < 8388608 → y < 8388608 → dbl (x ^^^ y) = dbl x ^^^ dbl y ∧ dbl ((8388608 + x) ^^^ y) = dbl (8388608 + x) ^^^ dbl y ∧ dbl ((8388608 + x) ^^^ (8388608 + y)) = dbl (8388608 + x) ^^^ dbl (8388608 + y) := by
    intro x y hx hy
    have hl : x ^^^ y < 8388608 := Nat.xor_lt_two_pow (n := 23) hx hy
    have e1 := xor_parts 23 1 x 0 y (by omega) (by omega)
    have e2 := xor_parts 23 1 x 1 y (by omega) (by omega)
    rw [show 1 * 2 ^ 23 + x = 8388608 + x by omega, show 0 * 2 ^ 23 + y = y by omega, Nat.xor_zero, show 1 * 2 ^ 23 + (x ^^^ y) = 8388608 + (x ^^^ y) by omega] at e1
    rw [show 1 * 2 ^ 23 + x = 8388608 + x by omega, show 1 * 2 ^ 23 + y = 8388608 + y by omega, Nat.xor_self, Nat.zero_mul, Nat.zero_add] at e2
    refine ⟨?_, ?_, ?_⟩
    · rw [dbl_low _ hl, dbl_low _ hx, dbl_low _ hy, two_xor]
    · rw [e1, dbl_high _ hl, dbl_high _ hx, dbl_low _ hy, two_xor, Nat.xor_assoc, Nat.xor_assoc, Nat.xor_comm 8801531]
    · rw [e2, dbl_low _ hl, dbl_high _ hx, dbl_high _ hy, two_xor, xor_swap, Nat.xor_self, Nat.xor_zero]
  by_cases h1 : a < 8388608 <;> by_cases h2 : b < 8388608
  · exact (key a b h1 h2).1
  · have := (key (b - 8388608) a (by omega) h1).2.1
    rw [show 8388608 + (b - 8388608) = b by omega] at this
    rw [Nat.xor_comm a b, this, Nat.xor_comm]
  · have := (key (a - 8388608) b (by omega) h2).2.1
    rw [show 8388608 + (a - 8388608) = a by omega] at this
    exact this
  · have := (key (a - 8388608) (b - 8388608) (by omega) (by omega)).2.2
    rw [show 8388608 + (a - 8388608) = a by omega, show 8388608 + (b - 8388608) = b by omega] at this
    exact this
theorem dbl_zero (s : Nat) (h : s < 16777216) (h0 : dbl s = 0) : s = 0 := by
  by_cases h2 : s < 8388608
  · rw [dbl_low s h2] at h0; omega
  · rw [show s = 8388608 + (s - 8388608) by omega, dbl_high _ (by omega)] at h0
    have hx := xor_parts 1 (s - 8388608) 0 4400765 1 (by decide) (by decide)
    rw [show (s - 8388608) * 2 ^ 1 + 0 = 2 * (s - 8388608) by omega, show 4400765 * 2 ^ 1 + 1 = 8801531 by decide, h0, show (0 : Nat) ^^^ 1 = 1 by decide] at hx
    omega

/-- So many times. -/
def itd (n s : Nat) : Nat := match n with
  | 0 => s
  | n + 1 => itd n (dbl s)
termination_by n
theorem itd_0 (s : Nat) : itd 0 s = s := by rw [itd]
theorem itd_s (n s : Nat) : itd (n + 1) s = itd n (dbl s) := by rw [itd]
theorem itd_lt (n : Nat) : ∀ s, s < 16777216 → itd n s < 16777216 := by
  induction n with
  | zero => intro s h; rw [itd_0]; exact h
  | succ n ih => intro s h; rw [itd_s]; exact ih _ (dbl_lt s h)
theorem itd_lin (n : Nat) : ∀ a b, a < 16777216 → b < 16777216 → itd n (a ^^^ b) = itd n a ^^^ itd n b := by
  induction n with
  | zero => intro a b _ _; rw [itd_0, itd_0, itd_0]
  | succ n ih => intro a b ha hb; rw [itd_s, itd_s, itd_s, dbl_lin a b ha hb]; exact ih _ _ (dbl_lt a ha) (dbl_lt b hb)
theorem itd_zero (n : Nat) : ∀ s, s < 16777216 → itd n s = 0 → s = 0 := by
  induction n with
  | zero => intro s _ h; rw [itd_0] at h; exact h
  | succ n ih => intro s h h0; rw [itd_s] at h0; exact dbl_zero s h (ih _ (dbl_lt s h) h0)
theorem itd_nought (n : Nat) : itd n 0 = 0 := by
  induction n with
  | zero => rw [itd_0]
  | succ n ih => rw [itd_s, show dbl 0 = 0 by decide]; exact ih
theorem itd_add (m n : Nat) : ∀ s, itd (m + n) s = itd n (itd m s) := by
  induction m with
  | zero => intro s; rw [Nat.zero_add, itd_0]
  | succ m ih => intro s; rw [show m + 1 + n = (m + n) + 1 by omega, itd_s, itd_s]; exact ih (dbl s)
theorem itd_small (n : Nat) : ∀ s, s * 2 ^ n < 16777216 → itd n s = s * 2 ^ n := by
  induction n with
  | zero => intro s _; rw [itd_0]; omega
  | succ n ih =>
    intro s h
    have e : s * 2 ^ (n + 1) = 2 * s * 2 ^ n := by rw [Nat.pow_succ, Nat.mul_comm 2 s, Nat.mul_assoc, Nat.mul_comm 2]
    have p : 0 < 2 ^ n := Nat.two_pow_pos n
    have h1 : 2 * s < 16777216 := Nat.lt_of_le_of_lt (Nat.le_mul_of_pos_right _ p) (by rw [← e]; exact h)
    rw [itd_s, dbl_low s (by omega), ih _ (by rw [← e]; exact h), e]

/-- What a sum becomes by a byte, and by bytes. -/
def stepB (s b : Nat) : Nat := itd 8 (s ^^^ (b * 65536))
def crc (s : Nat) (bs : List Nat) : Nat := bs.foldl stepB s
def bytesN (bs : List Nat) : Prop := ∀ b ∈ bs, b < 256
theorem stepB_lt (s b : Nat) (hs : s < 16777216) (hb : b < 256) : stepB s b < 16777216 := by
  have h : b * 65536 < 16777216 := by omega
  unfold stepB
  exact itd_lt 8 _ (xor24 s _ hs h)
theorem crc_lt (bs : List Nat) : ∀ s, s < 16777216 → bytesN bs → crc s bs < 16777216 := by
  induction bs with
  | nil => intro s hs _; exact hs
  | cons b bs ih => intro s hs hb; exact ih _ (stepB_lt s b hs (hb b (by simp))) (fun c hc => hb c (by simp [hc]))
theorem crc_append (s : Nat) (a b : List Nat) : crc s (a ++ b) = crc (crc s a) b := by unfold crc; rw [List.foldl_append]
theorem stepB_lin (s t b c : Nat) (hs : s < 16777216) (ht : t < 16777216) (hb : b < 256) (hc : c < 256) : stepB (s ^^^ t) (b ^^^ c) = stepB s b ^^^ stepB t c := by
  unfold stepB
  have e : (b ^^^ c) * 65536 = (b * 65536) ^^^ (c * 65536) := by
    have := xor_parts 16 b 0 c 0 (by decide) (by decide)
    rw [Nat.xor_self] at this
    rw [show b * 65536 = b * 2 ^ 16 + 0 by omega, show c * 65536 = c * 2 ^ 16 + 0 by omega, this]
    omega
  rw [e, ← itd_lin 8 _ _ (xor24 _ _ hs (by omega)) (xor24 _ _ ht (by omega)), xor_swap]
/-- The sum of bytes with some turned is the sum, with that of what is turned. -/
theorem crc_lin (bs : List Nat) : ∀ (es : List Nat) (s t : Nat), bs.length = es.length → s < 16777216 → t < 16777216 → bytesN bs → bytesN es → crc (s ^^^ t) (List.zipWith (· ^^^ ·) bs es) = crc s bs ^^^ crc t es := by
  induction bs with
  | nil => intro es s t h _ _ _ _; cases es with
    | nil => rfl
    | cons e es => simp at h
  | cons b bs ih =>
    intro es s t h hs ht hb he
    cases es with
    | nil => simp at h
    | cons e es =>
      have h1 := hb b (by simp)
      have h2 := he e (by simp)
      show crc (stepB (s ^^^ t) (b ^^^ e)) (List.zipWith (· ^^^ ·) bs es) = crc (stepB s b) bs ^^^ crc (stepB t e) es
      rw [stepB_lin s t b e hs ht h1 h2]
      exact ih es _ _ (by simpa using h) (stepB_lt s b hs h1) (stepB_lt t e ht h2) (fun c hc => hb c (by simp [hc])) (fun c hc => he c (by simp [hc]))
theorem xor_high (k a b : Nat) (hb : b < 2 ^ k) : (a * 2 ^ k) ^^^ b = a * 2 ^ k + b := by
  have h := xor_parts k a 0 0 b (Nat.two_pow_pos k) hb
  rw [Nat.xor_zero, Nat.zero_xor, Nat.zero_mul, Nat.zero_add, Nat.add_zero] at h
  exact h
theorem xor_three (x y z : Nat) (_hx : x < 256) (hy : y < 256) (hz : z < 256) : x * 65536 + y * 256 + z = (x * 65536) ^^^ ((y * 256) ^^^ z) := by
  have a2 := xor_high 8 y z (by omega)
  have a1 := xor_high 16 x (y * 256 + z) (by omega)
  rw [show 2 ^ 8 = 256 by decide] at a2
  rw [show 2 ^ 16 = 65536 by decide] at a1
  rw [a2, a1, Nat.add_assoc]
/-- Three bytes behind: all 24 bits come to stand. -/
theorem crc_three (s x y z : Nat) (hs : s < 16777216) (hx : x < 256) (hy : y < 256) (hz : z < 256) : crc s [x, y, z] = itd 24 (s ^^^ (x * 65536 + y * 256 + z)) := by
  have e1 : y * 65536 = itd 8 (y * 256) := by rw [itd_small 8 _ (by omega)]; omega
  have e2 : z * 65536 = itd 16 z := by rw [itd_small 16 _ (by omega)]
  have e3 := xor_three x y z hx hy hz
  have hs1 : s ^^^ x * 65536 < 16777216 := xor24 _ _ hs (by omega)
  have hs2 : (s ^^^ x * 65536) ^^^ y * 256 < 16777216 := xor24 _ _ hs1 (by omega)
  show stepB (stepB (stepB s x) y) z = _
  have f1 : stepB (stepB s x) y = itd 16 ((s ^^^ x * 65536) ^^^ y * 256) := by
    unfold stepB
    rw [e1, ← itd_lin 8 _ _ hs1 (by omega)]
    exact (itd_add 8 8 _).symm
  rw [f1]
  unfold stepB
  rw [e2, ← itd_lin 16 _ _ hs2 (by omega), ← itd_add 16 8, e3, ← Nat.xor_assoc, ← Nat.xor_assoc]
theorem xor_zero_iff (a b : Nat) (h : a ^^^ b = 0) : a = b := by
  have := congrArg (fun t => t ^^^ b) h
  simpa [Nat.xor_assoc] using this
/-- Three bytes bring a sum to 0 just if they are its own. -/
theorem crc_three_zero (s x y z : Nat) (hs : s < 16777216) (hx : x < 256) (hy : y < 256) (hz : z < 256) : crc s [x, y, z] = 0 ↔ s = x * 65536 + y * 256 + z := by
  rw [crc_three s x y z hs hx hy hz]
  constructor
  · intro h
    exact xor_zero_iff _ _ (itd_zero 24 _ (xor24 _ _ hs (by omega)) h)
  · intro h; rw [h, Nat.xor_self, itd_nought]
theorem three_own (s x y z : Nat) (hy : y < 256) (hz : z < 256) (h : s = x * 65536 + y * 256 + z) : x = s / 65536 ∧ y = s / 256 % 256 ∧ z = s % 256 := by omega
/-- A sum that isn't 0 stays so, whatever noughts follow. -/
theorem crc_noughts (n : Nat) : ∀ s, s < 16777216 → s ≠ 0 → crc s (List.replicate n 0) ≠ 0 := by
  induction n with
  | zero => intro s _ h; exact h
  | succ n ih =>
    intro s hs h
    rw [List.replicate_succ]
    refine ih (stepB s 0) (stepB_lt s 0 hs (by decide)) (fun h0 => h ?_)
    unfold stepB at h0
    rw [Nat.zero_mul, Nat.xor_zero] at h0
    exact itd_zero 8 s hs h0
theorem crc_from_nought (n : Nat) : crc 0 (List.replicate n 0) = 0 := by
  induction n with
  | zero => rfl
  | succ n ih => rw [List.replicate_succ]; show crc (stepB 0 0) _ = 0; rw [show stepB 0 0 = 0 by unfold stepB; rw [Nat.zero_mul, Nat.xor_self, itd_nought]]; exact ih
/-- One byte turned, or a byte's last bit and the next one's first, in the midst of noughts: the sum isn't 0. -/
theorem crc_one (m n e : Nat) (he : e < 256) (h0 : e ≠ 0) : crc 0 (List.replicate m 0 ++ e :: List.replicate n 0) ≠ 0 := by
  rw [crc_append, crc_from_nought]
  show crc (stepB 0 e) _ ≠ 0
  refine crc_noughts n _ (stepB_lt 0 e (by decide) he) (fun h => h0 ?_)
  unfold stepB at h
  rw [Nat.zero_xor] at h
  have := itd_zero 8 _ (by omega) h
  omega
theorem crc_two (m n : Nat) : crc 0 (List.replicate m 0 ++ 1 :: 128 :: List.replicate n 0) ≠ 0 := by
  rw [crc_append, crc_from_nought]
  show crc (stepB (stepB 0 1) 128) _ ≠ 0
  exact crc_noughts n _ (stepB_lt _ 128 (stepB_lt 0 1 (by decide) (by decide)) (by decide)) (by decide +kernel)
end Go.Proofs.Ytdmkkfpbgpijjaa
namespace Go.Proofs.Ytdmkkfpbgpijjaa
set_option linter.unusedVariables false


def bytesOf (zs : List Int) : List Nat := zs.map Int.toNat
def low24 (n : Int) : Nat := (n % 16777216).toNat
def sumB (zs : List Int) : Nat := crc 11994318 (bytesOf zs)
def threeL (s : Nat) : List Int := [((s / 65536 % 256 : Nat) : Int), ((s / 256 % 256 : Nat) : Int), ((s % 256 : Nat) : Int)]
def sealL (zs : List Int) : List Int := zs ++ threeL (sumB zs)
def openOK (zs : List Int) : Bool := decide (3 ≤ zs.length) && (zs.drop (zs.length - 3) == threeL (sumB (zs.take (zs.length - 3))))
def openL (zs : List Int) : List Int := if openOK zs then zs.take (zs.length - 3) else []
theorem isBytes.at {a : List Int} (ha : isBytes a) (n : Nat) : 0 ≤ a[n]?.getD 0 ∧ a[n]?.getD 0 < 256 := by
  by_cases h : n < a.length
  · simp only [List.getElem?_eq_getElem h, Option.getD_some]; exact ha _ (List.getElem_mem h)
  · simp [List.getElem?_eq_none (Nat.le_of_not_lt h)]
theorem threeL_bytes (s : Nat) : isBytes (threeL s) := by
  intro z hz
  simp only [threeL, List.mem_cons, List.not_mem_nil, or_false] at hz
  rcases hz with rfl | rfl | rfl <;> omega
theorem threeL_length (s : Nat) : (threeL s).length = 3 := rfl
theorem sealL_length (zs : List Int) : (sealL zs).length = zs.length + 3 := by simp [sealL, threeL]
theorem bytesOf_bytes {zs : List Int} (h : isBytes zs) : bytesN (bytesOf zs) := by
  intro b hb
  simp only [bytesOf, List.mem_map] at hb
  obtain ⟨z, hz, rfl⟩ := hb
  have := h z hz
  omega
theorem bytesOf_append (a b : List Int) : bytesOf (a ++ b) = bytesOf a ++ bytesOf b := by simp [bytesOf]
theorem bytesOf_length (a : List Int) : (bytesOf a).length = a.length := by simp [bytesOf]
theorem low24_lt (n : Int) : low24 n < 16777216 := by unfold low24; omega
theorem low24_of (s : Nat) (h : s < 16777216) : low24 (s : Int) = s := by unfold low24; omega
theorem sumB_lt {zs : List Int} (h : isBytes zs) : sumB zs < 16777216 := crc_lt _ _ (by decide) (bytesOf_bytes h)
theorem sumB_append (a b : List Int) : sumB (a ++ b) = crc (sumB a) (bytesOf b) := by unfold sumB; rw [bytesOf_append, crc_append]
theorem sealL_bytes {zs : List Int} (h : isBytes zs) : isBytes (sealL zs) := h.append (threeL_bytes _)
theorem crc_threeL (s : Nat) (h : s < 16777216) : crc s (bytesOf (threeL s)) = 0 := by
  have e : bytesOf (threeL s) = [s / 65536 % 256, s / 256 % 256, s % 256] := by simp only [bytesOf, threeL, List.map_cons, List.map_nil, Int.toNat_natCast]
  rw [e]
  exact (crc_three_zero s _ _ _ h (by omega) (by omega) (by omega)).2 (by omega)
theorem sumB_seal {zs : List Int} (h : isBytes zs) : sumB (sealL zs) = 0 := by
  unfold sealL
  rw [sumB_append, crc_threeL _ (sumB_lt h)]
theorem open_seal (zs : List Int) : openOK (sealL zs) = true ∧ openL (sealL zs) = zs := by
  have h : openOK (sealL zs) = true := by
    unfold openOK
    rw [sealL_length, show zs.length + 3 - 3 = zs.length by omega]
    unfold sealL
    rw [List.drop_left, List.take_left]
    simp
  refine ⟨h, ?_⟩
  unfold openL
  rw [if_pos h, sealL_length, show zs.length + 3 - 3 = zs.length by omega]
  unfold sealL
  rw [List.take_left]
theorem open_is {zs : List Int} (h : openOK zs = true) : sealL (openL zs) = zs := by
  unfold openL
  rw [if_pos h]
  simp only [openOK, Bool.and_eq_true, decide_eq_true_eq, beq_iff_eq] at h
  unfold sealL
  rw [← h.2, List.take_append_drop]
theorem openL_no {zs : List Int} (h : openOK zs = false) : openL zs = [] := by unfold openL; rw [h]; rfl
theorem openL_bytes {zs : List Int} (h : isBytes zs) : isBytes (openL zs) := by
  unfold openL
  split
  · exact h.take _
  · intro z hz; cases hz
theorem openL_length (zs : List Int) : (openL zs).length ≤ zs.length := by
  unfold openL
  split
  · simp
  · simp
/-- What is opened has the sum 0. -/
theorem open_sum {zs : List Int} (hb : isBytes zs) (h : openOK zs = true) : sumB zs = 0 := by
  rw [← open_is h]
  exact sumB_seal (openL_bytes hb)

/-! ### Turned bits -/
theorem crc_turned (s : Nat) (bs es : List Nat) (hl : bs.length = es.length) (hs : s < 16777216) (hb : bytesN bs) (he : bytesN es) (h0 : crc s bs = 0) (h1 : crc 0 es ≠ 0) : crc s (List.zipWith (· ^^^ ·) bs es) ≠ 0 := by
  have := crc_lin bs es s 0 hl hs (by decide) hb he
  rw [Nat.xor_zero, h0, Nat.zero_xor] at this
  rw [this]; exact h1
def oneE (i n e : Nat) : List Nat := List.replicate i 0 ++ e :: List.replicate (n - i - 1) 0
def twoE (i n : Nat) : List Nat := List.replicate i 0 ++ 1 :: 128 :: List.replicate (n - i - 2) 0
theorem oneE_length (i n e : Nat) (h : i < n) : (oneE i n e).length = n := by simp [oneE]; omega
theorem twoE_length (i n : Nat) (h : i + 1 < n) : (twoE i n).length = n := by simp [twoE]; omega
theorem oneE_bytes (i n e : Nat) (h : e < 256) : bytesN (oneE i n e) := by
  intro b hb
  simp only [oneE, List.mem_append, List.mem_cons, List.mem_replicate] at hb
  rcases hb with ⟨_, rfl⟩ | rfl | ⟨_, rfl⟩ <;> omega
theorem twoE_bytes (i n : Nat) : bytesN (twoE i n) := by
  intro b hb
  simp only [twoE, List.mem_append, List.mem_cons, List.mem_replicate] at hb
  rcases hb with ⟨_, rfl⟩ | rfl | rfl | ⟨_, rfl⟩ <;> omega
theorem oneE_at (i n e j : Nat) : (oneE i n e)[j]?.getD 0 = if j = i then e else 0 := by
  unfold oneE
  by_cases h : j < i
  · rw [List.getElem?_append_left (by simpa using h), List.getElem?_replicate, if_pos h, if_neg (by omega)]; rfl
  · rw [List.getElem?_append_right (by simp; omega), List.length_replicate]
    by_cases h2 : j = i
    · subst h2; simp
    · rw [if_neg h2, show j - i = (j - i - 1) + 1 by omega, List.getElem?_cons_succ, List.getElem?_replicate]
      split <;> rfl
theorem twoE_at (i n j : Nat) : (twoE i n)[j]?.getD 0 = if j = i then 1 else if j = i + 1 then 128 else 0 := by
  unfold twoE
  by_cases h : j < i
  · rw [List.getElem?_append_left (by simpa using h), List.getElem?_replicate, if_pos h, if_neg (by omega), if_neg (by omega)]; rfl
  · rw [List.getElem?_append_right (by simp; omega), List.length_replicate]
    by_cases h2 : j = i
    · subst h2; simp
    · rw [if_neg h2, show j - i = (j - i - 1) + 1 by omega, List.getElem?_cons_succ]
      by_cases h3 : j = i + 1
      · subst h3; rw [if_pos rfl, show i + 1 - i - 1 = 0 by omega]; rfl
      · rw [if_neg h3, show j - i - 1 = (j - i - 2) + 1 by omega, List.getElem?_cons_succ, List.getElem?_replicate]
        split <;> rfl
/-- A list whose bytes are those of a sealed one, turned by es, isn't opened. -/
theorem turned_no (ss ts : List Int) (es : List Nat) (hs : isBytes ss) (hts : isBytes ts) (hl : ss.length = ts.length) (hle : es.length = ss.length) (he : bytesN es) (hx : ∀ j, j < ss.length → (ts[j]?.getD 0).toNat = (ss[j]?.getD 0).toNat ^^^ es[j]?.getD 0) (h0 : sumB ss = 0) (h1 : crc 0 es ≠ 0) : openOK ts = false := by
  rw [Bool.eq_false_iff]
  intro h
  have h2 := open_sum hts h
  have e : bytesOf ts = List.zipWith (· ^^^ ·) (bytesOf ss) es := by
    apply List.ext_getElem
    · simp [bytesOf]; omega
    · intro j h3 h4
      rw [bytesOf_length] at h3
      have := hx j (by omega)
      simp only [List.getElem?_eq_getElem h3, List.getElem?_eq_getElem (show j < ss.length by omega), List.getElem?_eq_getElem (show j < es.length by omega), Option.getD_some] at this
      simp [bytesOf, this]
  refine crc_turned 11994318 (bytesOf ss) es (by rw [bytesOf_length, hle]) (by decide) (bytesOf_bytes hs) he h0 h1 ?_
  rw [← e]
  exact h2
end Go.Proofs.Ytdmkkfpbgpijjaa
namespace Go.Proofs.Ytdmkkfpbgpijjaa
set_option linter.unusedVariables false

/-- A log's sector: its number, the first number that counts, its bytes, and whether it begins. -/
structure Sec where
  n : Nat
  first : Nat
  data : List Int
  beg : Bool
def flagN (k : Nat) (beg : Bool) : Nat := k + (if beg then 128 else 0)
def bodyL (s : Sec) : List Int := bytesL s.n 4 ++ bytesL s.first 4 ++ [((flagN s.data.length s.beg : Nat) : Int)] ++ s.data ++ zeros (16 - s.data.length)
def secL (s : Sec) : List Int := sealL (bodyL s) ++ bytesL s.n 4
/-- A sector that can be written: its numbers are below 2 to 32, its bytes are 16 at most. -/
structure okS (s : Sec) : Prop where
  n : s.n < 4294967296
  first : s.first < 4294967296
  len : s.data.length ≤ 16
  bytes : isBytes s.data

def flagOf (z : List Int) : Nat := (z[8]?.getD 0).toNat
def isSec (z : List Int) : Bool :=
  decide (z.length = 32) && (z.take 4 == z.drop 28) && openOK (z.take 28) && decide (flagOf z % 128 ≤ 16) && ((z.drop (9 + flagOf z % 128)).take (16 - flagOf z % 128) == zeros (16 - flagOf z % 128))
def secOf (z : List Int) : Sec := ⟨fromN (z.take 4), fromN ((z.drop 4).take 4), (z.drop 9).take (flagOf z % 128), decide (128 ≤ flagOf z)⟩
/-- What a sector's bytes are as a log's sector. -/
def readS (z : List Int) : Option Sec := if isSec z then some (secOf z) else none

theorem flagN_lt (k : Nat) (beg : Bool) (h : k ≤ 16) : flagN k beg < 256 ∧ flagN k beg % 128 = k ∧ (decide (128 ≤ flagN k beg)) = beg := by
  unfold flagN
  cases beg
  · simp; omega
  · simp; omega
theorem bodyL_length {s : Sec} (h : okS s) : (bodyL s).length = 25 := by
  have := h.len
  simp [bodyL, bytesL_length, zeros]; omega
theorem secL_length {s : Sec} (h : okS s) : (secL s).length = 32 := by
  simp [secL, sealL_length, bodyL_length h, bytesL_length]
theorem bodyL_bytes {s : Sec} (h : okS s) : isBytes (bodyL s) := by
  have hf := (flagN_lt s.data.length s.beg h.len).1
  unfold bodyL
  refine (((isBytes.append (bytesL_bytes _ _) (bytesL_bytes _ _)).append ?_).append h.bytes).append (zeros_bytes _)
  intro z hz
  simp at hz
  omega
theorem secL_bytes {s : Sec} (h : okS s) : isBytes (secL s) := (sealL_bytes (bodyL_bytes h)).append (bytesL_bytes _ _)
theorem four_back (n : Nat) (h : n < 4294967296) : fromN (bytesL n 4) = n := from_bytes 4 n (by omega)
theorem secL_front (s : Sec) : (secL s).take 4 = bytesL s.n 4 := by
  unfold secL sealL bodyL
  simp only [List.append_assoc]
  rw [List.take_append_of_le_length (by rw [bytesL_length]; omega), List.take_of_length_le (by rw [bytesL_length]; omega)]
theorem seal_len {s : Sec} (h : okS s) : (sealL (bodyL s)).length = 28 := by rw [sealL_length, bodyL_length h]
theorem secL_back {s : Sec} (h : okS s) : (secL s).drop 28 = bytesL s.n 4 := by
  unfold secL
  rw [List.drop_append_of_le_length (by rw [seal_len h]; omega), List.drop_of_length_le (by rw [seal_len h]; omega), List.nil_append]
theorem secL_seal {s : Sec} (h : okS s) : (secL s).take 28 = sealL (bodyL s) := by
  unfold secL
  rw [List.take_append_of_le_length (by rw [seal_len h]; omega), List.take_of_length_le (by rw [seal_len h]; omega)]
/-- The bytes behind the two numbers. -/
theorem secL_drop8 (s : Sec) : (secL s).drop 8 = ((flagN s.data.length s.beg : Nat) : Int) :: (s.data ++ (zeros (16 - s.data.length) ++ (threeL (sumB (bodyL s)) ++ bytesL s.n 4))) := by
  have e : secL s = (bytesL s.n 4 ++ bytesL s.first 4) ++ (((flagN s.data.length s.beg : Nat) : Int) :: (s.data ++ (zeros (16 - s.data.length) ++ (threeL (sumB (bodyL s)) ++ bytesL s.n 4)))) := by
    unfold secL sealL
    conv => lhs; unfold bodyL
    simp only [List.append_assoc, List.cons_append, List.nil_append]
    rfl
  rw [e, List.drop_append_of_le_length (by simp [bytesL_length]), List.drop_of_length_le (by simp [bytesL_length]), List.nil_append]
theorem secL_flag {s : Sec} (h : okS s) : flagOf (secL s) = flagN s.data.length s.beg := by
  unfold flagOf
  have e : (secL s)[8]? = ((secL s).drop 8)[0]? := by rw [List.getElem?_drop]
  rw [e, secL_drop8]
  simp
/-- What was written is read. -/
theorem read_sec {s : Sec} (h : okS s) : readS (secL s) = some s := by
  obtain ⟨f1, f2, f3⟩ := flagN_lt s.data.length s.beg h.len
  have e9 : (secL s).drop 9 = s.data ++ (zeros (16 - s.data.length) ++ (threeL (sumB (bodyL s)) ++ bytesL s.n 4)) := by
    have : (secL s).drop 9 = ((secL s).drop 8).drop 1 := by rw [List.drop_drop]
    rw [this, secL_drop8]
    rfl
  have ek : (secL s).drop (9 + s.data.length) = zeros (16 - s.data.length) ++ (threeL (sumB (bodyL s)) ++ bytesL s.n 4) := by
    have : (secL s).drop (9 + s.data.length) = ((secL s).drop 9).drop s.data.length := by rw [List.drop_drop]
    rw [this, e9, List.drop_left]
  have hz : (zeros (16 - s.data.length)).length = 16 - s.data.length := by simp [zeros]
  have i : isSec (secL s) = true := by
    unfold isSec
    rw [secL_length h, secL_front, secL_back h, secL_seal h, (open_seal _).1, secL_flag h, f2, ek]
    rw [List.take_append_of_le_length (by omega), List.take_of_length_le (by omega)]
    simp [h.len]
  have e4 : ((secL s).drop 4).take 4 = bytesL s.first 4 := by
    unfold secL sealL bodyL
    simp only [List.append_assoc]
    rw [List.drop_append_of_le_length (by rw [bytesL_length]; omega), List.drop_of_length_le (by rw [bytesL_length]; omega), List.nil_append, List.take_append_of_le_length (by rw [bytesL_length]; omega), List.take_of_length_le (by rw [bytesL_length]; omega)]
  unfold readS
  rw [i, if_pos rfl]
  unfold secOf
  rw [secL_front, four_back _ h.n, e4, four_back _ h.first, secL_flag h, f2, f3, e9]
  simp

theorem fromN_inj : ∀ (a b : List Int), isBytes a → isBytes b → a.length = b.length → fromN a = fromN b → a = b
  | [], [], _, _, _, _ => rfl
  | x :: a, y :: b, ha, hb, hl, h => by
    have hx := ha x (List.mem_cons_self ..)
    have hy := hb y (List.mem_cons_self ..)
    rw [fromN_cons, fromN_cons] at h
    have e1 : x = y := by omega
    have e2 : fromN a = fromN b := by omega
    rw [e1, fromN_inj a b (fun z hz => ha z (List.mem_cons_of_mem _ hz)) (fun z hz => hb z (List.mem_cons_of_mem _ hz)) (by simpa using hl) e2]
/-- A torn sector is the new one, the old one, or none: its number stands at both ends. -/
theorem torn_is (new old : List Int) (t : Nat) (hn : new.length = 32) (ho : old.length = 32) (en : new.take 4 = new.drop 28) (eo : old.take 4 = old.drop 28) (hne : new.take 4 ≠ old.take 4) (ht : t ≤ 32) :
    new.take t ++ old.drop t = new ∨ new.take t ++ old.drop t = old ∨ isSec (new.take t ++ old.drop t) = false := by
  by_cases h : (new.take t ++ old.drop t).take 4 = (new.take t ++ old.drop t).drop 28
  · rcases Nat.lt_or_ge t 4 with h4 | h4
    · right; left
      have e1 : (new.take t ++ old.drop t).drop 28 = old.drop 28 := by
        rw [List.drop_append, List.drop_of_length_le (by rw [List.length_take]; omega), List.nil_append, List.drop_drop]
        congr 1; rw [List.length_take]; omega
      have e2 : (new.take t ++ old.drop t).drop 4 = old.drop 4 := by
        rw [List.drop_append, List.drop_of_length_le (by rw [List.length_take]; omega), List.nil_append, List.drop_drop]
        congr 1; rw [List.length_take]; omega
      rw [e1, ← eo] at h
      have h3 := List.take_append_drop 4 (new.take t ++ old.drop t)
      rw [h, e2, List.take_append_drop] at h3
      exact h3.symm
    · have e1 : (new.take t ++ old.drop t).take 4 = new.take 4 := by
        rw [List.take_append_of_le_length (by rw [List.length_take]; omega), List.take_take, Nat.min_eq_left h4]
      rw [e1] at h
      rcases Nat.lt_or_ge 28 t with h28 | h28
      · left
        have e2 : (new.take t ++ old.drop t).take 28 = new.take 28 := by
          rw [List.take_append_of_le_length (by rw [List.length_take]; omega), List.take_take, Nat.min_eq_left (by omega)]
        have h3 := List.take_append_drop 28 (new.take t ++ old.drop t)
        rw [e2, ← h, en, List.take_append_drop] at h3
        exact h3.symm
      · exfalso
        have e2 : (new.take t ++ old.drop t).drop 28 = old.drop 28 := by
          rw [List.drop_append, List.drop_of_length_le (by rw [List.length_take]; omega), List.nil_append, List.drop_drop]
          congr 1; rw [List.length_take]; omega
        rw [e2, ← eo] at h
        exact hne h
  · right; right
    unfold isSec
    have : ((new.take t ++ old.drop t).take 4 == (new.take t ++ old.drop t).drop 28) = false := by simpa using h
    rw [this]
    simp
end Go.Proofs.Ytdmkkfpbgpijjaa
namespace Go.Proofs.Ytdmkkfpbgpijjaa
set_option linter.unusedVariables false

/-! ### the records of a row -/
def stopF (b : List Int) : Nat → Nat → Nat
  | 0, k => k
  | f + 1, k => if decN (b.drop (posN b k)) = 0 then k else stopF b f (k + 1)
def stopK (b : List Int) : Nat := stopF b (b.length + 1) 0
theorem stopF_stops (b : List Int) : ∀ f k, Goes b k → b.length < 3 * (k + f) → Stops b (stopF b f k) := by
  intro f
  induction f with
  | zero =>
    intro k hg hl
    have h1 := posN_ge hg
    have h2 := posN_le b k
    omega
  | succ f ih =>
    intro k hg hl
    unfold stopF
    by_cases h : decN (b.drop (posN b k)) = 0
    · rw [if_pos h]; exact ⟨hg, h⟩
    · rw [if_neg h]; exact ih (k + 1) (hg.succ h) (by omega)
theorem stops_stopK (b : List Int) : Stops b (stopK b) := stopF_stops b _ 0 (fun i hi => absurd hi (by omega)) (by omega)
def recsL (b : List Int) : List RecD := recsN b (stopK b)
def goneL (b : List Int) : Nat := posN b (stopK b)
def rowOK (b : List Int) : Bool := decide (b.length ≤ goneL b + 23)
theorem stopK_of {b : List Int} {k : Nat} (h : Stops b k) : stopK b = k := stops_one (stops_stopK b) h
/-- Right records, cut anywhere: those that are whole, and less than 24 bytes are left. -/
theorem row_cut (l : List RecD) (hr : ∀ r ∈ l, rightB r = true) (ok : ∀ r ∈ l, okR r) (cut : Nat) (hc : cut ≤ (joinL l).length) :
    ∃ k, k ≤ l.length ∧ recsL ((joinL l).take cut) = l.take k ∧ rowOK ((joinL l).take cut) = true ∧ ((joinL l).length ≤ cut → k = l.length) := by
  have hex : ∃ k, k ≤ l.length ∧ endsN l k ≤ cut ∧ (k < l.length → cut < endsN l (k + 1)) := by
    have key : ∀ d, d ≤ l.length → (∃ k, k ≤ l.length ∧ endsN l k ≤ cut ∧ (k < l.length → cut < endsN l (k + 1))) ∨ endsN l d ≤ cut := by
      intro d
      induction d with
      | zero => intro _; right; simp [endsN, joinL]
      | succ d ih =>
        intro hd
        rcases ih (by omega) with h | h
        · exact .inl h
        · rcases Nat.lt_or_ge cut (endsN l (d + 1)) with h2 | h2
          · exact .inl ⟨d, by omega, h, fun _ => h2⟩
          · exact .inr h2
    rcases key l.length (Nat.le_refl _) with h | h
    · exact h
    · exact ⟨l.length, Nat.le_refl _, h, fun h => absurd h (by omega)⟩
  obtain ⟨k, hk, h1, h2⟩ := hex
  obtain ⟨hs, hp, hrs⟩ := back_all l hr ok cut k hk h1 h2
  have e := stopK_of hs
  refine ⟨k, hk, by unfold recsL; rw [e]; exact hrs, ?_, ?_⟩
  · unfold rowOK goneL
    rw [e, hp, decide_eq_true_eq, List.length_take]
    rcases Nat.lt_or_ge k l.length with hlt | hge
    · have h3 := h2 hlt
      have h4 := endsN_succ l k hlt
      have h5 := (encL_bd l[k]).2
      omega
    · obtain rfl : k = l.length := by omega
      have : endsN l l.length = (joinL l).length := by unfold endsN; rw [List.take_length]
      omega
  · intro hge
    rcases Nat.lt_or_ge k l.length with hlt | hge2
    · have h3 := h2 hlt
      have h4 := endsN_mono l (k + 1) l.length (by omega)
      have : endsN l l.length = (joinL l).length := by unfold endsN; rw [List.take_length]
      omega
    · omega
theorem row_nil : recsL [] = [] ∧ rowOK [] = true := by
  obtain ⟨k, hk, h1, h2, _⟩ := row_cut [] (by simp) (by simp) 0 (by simp)
  have e : (joinL ([] : List RecD)).take 0 = [] := rfl
  rw [e] at h1 h2
  exact ⟨by rw [h1]; simp, h2⟩

/-! ### rows -/
def rowsAcc (cur : List Int) : List Sec → List (List Int)
  | [] => [cur]
  | s :: ss => if s.beg then cur :: rowsAcc s.data ss else rowsAcc (cur ++ s.data) ss
theorem rowsAcc_app (xs : List Sec) (y : Sec) (ys : List Sec) (hy : y.beg = true) : ∀ cur, rowsAcc cur (xs ++ y :: ys) = rowsAcc cur xs ++ rowsAcc y.data ys := by
  induction xs with
  | nil => intro cur; simp [rowsAcc, hy]
  | cons x xs ih =>
    intro cur
    rw [List.cons_append, rowsAcc, rowsAcc]
    cases x.beg
    · simp [ih]
    · simp [ih]
def tellR (ss : List Sec) : Option (List RecD) := if (rowsAcc [] ss).all rowOK then some ((rowsAcc [] ss).flatMap recsL) else none
/-- The sectors of bytes that are appended: 16 to each, the first one begins. -/
def secsN (b : List Int) : Nat := (b.length + 15) / 16
def layAt (next first : Nat) (b : List Int) (i : Nat) : Sec := ⟨next + i, first, (b.drop (16 * i)).take 16, i == 0⟩
def laySecs (next first : Nat) (b : List Int) : List Sec := (List.range (secsN b)).map (layAt next first b)
theorem laySecs_length (next first : Nat) (b : List Int) : (laySecs next first b).length = secsN b := by simp [laySecs]
theorem rowsAcc_more (next first : Nat) (b : List Int) (rest : List Sec) (k : Nat) : ∀ j, 1 ≤ j → rowsAcc (b.take (16 * j)) ((List.range' j k).map (layAt next first b) ++ rest) = rowsAcc (b.take (16 * (j + k))) rest := by
  induction k with
  | zero => intro j _; simp
  | succ k ih =>
    intro j hj
    rw [List.range'_succ, List.map_cons, List.cons_append, rowsAcc]
    have hb : (layAt next first b j).beg = false := by simp [layAt]; omega
    rw [hb]
    have e : b.take (16 * j) ++ (layAt next first b j).data = b.take (16 * (j + 1)) := by
      show b.take (16 * j) ++ (b.drop (16 * j)).take 16 = _
      rw [show 16 * (j + 1) = 16 * j + 16 by omega, List.take_add]
    simp only [e, Bool.false_eq_true, if_false]
    rw [ih (j + 1) (by omega)]
    congr 2; omega
theorem lay_take (next first : Nat) (b : List Int) (k : Nat) (hk : k ≤ secsN b) : (laySecs next first b).take k = (List.range k).map (layAt next first b) := by
  unfold laySecs
  rw [← List.map_take, List.take_range, Nat.min_eq_left hk]
/-- The first k sectors of what is appended are one row more: the first 16 k bytes. -/
theorem rowsAcc_lay (next first : Nat) (b : List Int) (k : Nat) (h0 : 0 < k) (hk : k ≤ secsN b) (rest : List Sec) (cur : List Int) : rowsAcc cur ((laySecs next first b).take k ++ rest) = cur :: rowsAcc (b.take (16 * k)) rest := by
  rw [lay_take _ _ _ _ hk]
  obtain ⟨m, rfl⟩ : ∃ m, k = m + 1 := ⟨k - 1, by omega⟩
  rw [List.range_eq_range', List.range'_succ, List.map_cons, List.cons_append, rowsAcc]
  have hb : (layAt next first b 0).beg = true := rfl
  rw [hb, if_pos rfl]
  have e : (layAt next first b 0).data = b.take (16 * 1) := by show (b.drop (16 * 0)).take 16 = _; simp
  rw [e, rowsAcc_more next first b rest m 1 (by omega)]
  congr 3; omega
theorem secsN_full (b : List Int) : b.take (16 * secsN b) = b := List.take_of_length_le (by unfold secsN; omega)
theorem secsN_cut (b : List Int) (k : Nat) (h : k < secsN b) : 16 * k ≤ b.length := by unfold secsN at h; omega
theorem secsN_nil (b : List Int) (h : secsN b = 0) : b = [] := by
  have : b.length = 0 := by unfold secsN at h; omega
  exact List.length_eq_zero_iff.1 this

/-! ### a log that was only appended to -/
def secsRows (next first : Nat) : List (List RecD) → List Sec
  | [] => []
  | r :: R => laySecs next first (joinL r) ++ secsRows (next + secsN (joinL r)) first R
def rowsN : List (List RecD) → Nat
  | [] => 0
  | r :: R => secsN (joinL r) + rowsN R
theorem secsRows_length (R : List (List RecD)) : ∀ next first, (secsRows next first R).length = rowsN R := by
  induction R with
  | nil => intro _ _; rfl
  | cons r R ih => intro next first; rw [secsRows, List.length_append, laySecs_length, ih, rowsN]
theorem secsRows_snoc (R : List (List RecD)) (r : List RecD) : ∀ next first, secsRows next first (R ++ [r]) = secsRows next first R ++ laySecs (next + rowsN R) first (joinL r) := by
  induction R with
  | nil => intro next first; simp [secsRows, rowsN]
  | cons q R ih => intro next first; rw [List.cons_append, secsRows, ih, secsRows, rowsN, List.append_assoc, Nat.add_assoc]
theorem rowsN_snoc (R : List (List RecD)) (r : List RecD) : rowsN (R ++ [r]) = rowsN R + secsN (joinL r) := by
  induction R with
  | nil => simp [rowsN]
  | cons q R ih => rw [List.cons_append, rowsN, ih, rowsN]; omega
def RightL (l : List RecD) : Prop := ∀ r ∈ l, rightB r = true ∧ okR r
theorem join_nil {l : List RecD} (h : joinL l = []) : l = [] := by
  cases l with
  | nil => rfl
  | cons r l =>
    rw [joinL_cons] at h
    have := (encL_bd r).1
    have h2 := congrArg List.length h
    rw [List.length_append] at h2
    have h3 : ([] : List Int).length = 0 := rfl
    omega
/-- Behind a row, the first m sectors of what was appended tell a beginning of all records; all of the first j lists, if all their sectors are there. -/
theorem tell_rows (R : List (List RecD)) (first : Nat) (hR : ∀ l ∈ R, RightL l) : ∀ next cur m, m ≤ rowsN R → rowOK cur = true →
    ∃ q, q ≤ R.flatten.length ∧ (rowsAcc cur ((secsRows next first R).take m)).all rowOK = true ∧ (rowsAcc cur ((secsRows next first R).take m)).flatMap recsL = recsL cur ++ R.flatten.take q ∧ (∀ j, rowsN (R.take j) ≤ m → (R.take j).flatten.length ≤ q) := by
  induction R with
  | nil =>
    intro next cur m hm hc
    exact ⟨0, by simp, by simp [secsRows, rowsAcc, hc], by simp [secsRows, rowsAcc], by simp⟩
  | cons r R ih =>
    intro next cur m hm hc
    have hr : RightL r := hR r (by simp)
    have ih := ih (fun l hl => hR l (by simp [hl]))
    rw [rowsN] at hm
    obtain ⟨b, hb⟩ : ∃ b, joinL r = b := ⟨_, rfl⟩
    rw [hb] at hm
    rw [secsRows, hb]
    rcases Nat.eq_zero_or_pos m with h0 | h0
    · subst h0
      refine ⟨0, by simp, by simp [rowsAcc, hc], by simp [rowsAcc], fun j hj => ?_⟩
      cases j with
      | zero => simp
      | succ j =>
        rw [List.take_succ_cons, rowsN, hb] at hj
        have e1 : r = [] := join_nil (by rw [hb]; exact secsN_nil b (by omega))
        have := (ih 0 [] 0 (by omega) row_nil.2)
        obtain ⟨q, _, _, h3, h4⟩ := this
        have h5 := h4 j (by omega)
        have h6 : q = 0 ∨ R.flatten = [] := by
          simp [rowsAcc, row_nil.1] at h3
          rcases h3 with h3 | h3
          · exact .inl h3
          · right; simpa using h3
        have h7 : (R.take j).flatten.length ≤ R.flatten.length := by
          conv => rhs; rw [← List.take_append_drop j R]
          rw [List.flatten_append, List.length_append]; omega
        rw [List.take_succ_cons, List.flatten_cons, e1, List.nil_append]
        rcases h6 with h6 | h6
        · omega
        · rw [h6] at h7; simpa using h7
    · rcases Nat.lt_or_ge m (secsN b) with hlt | hge
      · rw [List.take_append_of_le_length (by rw [laySecs_length]; omega)]
        have e := rowsAcc_lay next first b m h0 (by omega) [] cur
        rw [List.append_nil] at e
        rw [e]
        obtain ⟨k, hk, k1, k2, k3⟩ := row_cut r (fun x hx => (hr x hx).1) (fun x hx => (hr x hx).2) (16 * m) (by rw [hb]; exact secsN_cut b m hlt)
        rw [hb] at k1 k2
        refine ⟨k, by simp; omega, by simp [rowsAcc, hc, k2], ?_, fun j hj => ?_⟩
        · simp only [rowsAcc, List.flatMap_cons, List.flatMap_nil, List.append_nil, k1, List.flatten_cons]
          rw [List.take_append_of_le_length hk]
        · cases j with
          | zero => simp
          | succ j =>
            rw [List.take_succ_cons, rowsN, hb] at hj
            omega
      · obtain ⟨m', rfl⟩ : ∃ m', m = secsN b + m' := ⟨m - secsN b, by omega⟩
        have et : (laySecs next first b ++ secsRows (next + secsN b) first R).take (secsN b + m') = (laySecs next first b).take (secsN b) ++ (secsRows (next + secsN b) first R).take m' := by
          have hl := laySecs_length next first b
          rw [List.take_append, hl, List.take_of_length_le (l := laySecs next first b) (i := secsN b + m') (by omega), List.take_of_length_le (l := laySecs next first b) (i := secsN b) (by omega), Nat.add_sub_cancel_left]
        rw [et]
        rcases Nat.eq_zero_or_pos (secsN b) with hz | hz
        · have eb := secsN_nil b hz
          have er : r = [] := join_nil (by rw [hb, eb])
          have el : (laySecs next first b).take (secsN b) = [] := by rw [hz]; rfl
          rw [el, List.nil_append]
          obtain ⟨q, q1, q2, q3, q4⟩ := ih (next + secsN b) cur m' (by omega) hc
          refine ⟨q, by simpa [er] using q1, q2, by simpa [er] using q3, fun j hj => ?_⟩
          cases j with
          | zero => simp
          | succ j =>
            rw [List.take_succ_cons, rowsN, hb] at hj
            have := q4 j (by omega)
            simpa [er] using this
        · rw [rowsAcc_lay next first b (secsN b) hz (Nat.le_refl _), secsN_full]
          obtain ⟨k, hk, k1, k2, k3⟩ := row_cut r (fun x hx => (hr x hx).1) (fun x hx => (hr x hx).2) (joinL r).length (Nat.le_refl _)
          have k4 := k3 (Nat.le_refl _)
          rw [List.take_length, hb] at k1 k2
          rw [k4, List.take_length] at k1
          obtain ⟨q, q1, q2, q3, q4⟩ := ih (next + secsN b) b m' (by omega) k2
          refine ⟨r.length + q, by simpa using q1, by simp only [List.all_cons, hc, q2, Bool.and_self], ?_, fun j hj => ?_⟩
          · rw [List.flatMap_cons, q3, k1, List.flatten_cons, List.take_append, List.take_of_length_le (by omega : r.length ≤ r.length + q)]
            congr 3; omega
          · cases j with
            | zero => simp
            | succ j =>
              rw [List.take_succ_cons, rowsN, hb] at hj
              have := q4 j (by omega)
              rw [List.take_succ_cons, List.flatten_cons, List.length_append]
              omega
end Go.Proofs.Ytdmkkfpbgpijjaa
namespace Go.Proofs.Ytdmkkfpbgpijjaa
set_option linter.unusedVariables false

structure LogD where
  next : Nat
  first : Nat
  sure : Nat
def placeOf (N n : Nat) : Nat := (n - 1) % N
def counts (S : List (List Int)) (i : Nat) : Nat := match readS (secAt S i) with
  | some s => if 1 ≤ s.n ∧ placeOf S.length s.n = i then s.n else 0
  | none => 0
def lastUpto (S : List (List Int)) : Nat → Nat
  | 0 => 0
  | i + 1 => max (lastUpto S i) (counts S i)
def lastN (S : List (List Int)) : Nat := lastUpto S S.length
def secN (S : List (List Int)) (n : Nat) : Option Sec := match readS (secAt S (placeOf S.length n)) with
  | some s => if s.n = n then some s else none
  | none => none
/-- The k sectors from f on, if they are there. -/
def secsFrom (S : List (List Int)) (f : Nat) : Nat → Option (List Sec)
  | 0 => some []
  | k + 1 => match secsFrom S f k, secN S (f + k) with
    | some ss, some s => some (ss ++ [s])
    | _, _ => none
def tells (S : List (List Int)) : Option (LogD × List RecD) :=
  if lastN S = 0 then some (⟨1, 1, 1⟩, [])
  else match secN S (lastN S) with
    | none => none
    | some s =>
      if s.first < 1 ∨ lastN S < s.first ∨ S.length ≤ lastN S - s.first then none
      else match secsFrom S s.first (lastN S - s.first + 1) with
        | none => none
        | some ss => match tellR ss with
          | none => none
          | some rs => some (⟨lastN S + 1, s.first, s.first⟩, rs)

theorem lastUpto_le (S : List (List Int)) (m : Nat) : ∀ k, (∀ i, i < k → counts S i ≤ m) → lastUpto S k ≤ m := by
  intro k
  induction k with
  | zero => intro _; exact Nat.zero_le _
  | succ k ih =>
    intro h
    have h1 := ih (fun i hi => h i (by omega))
    have h2 := h k (by omega)
    unfold lastUpto; omega
theorem le_lastUpto (S : List (List Int)) (i : Nat) : ∀ k, i < k → counts S i ≤ lastUpto S k := by
  intro k
  induction k with
  | zero => intro h; omega
  | succ k ih =>
    intro h
    unfold lastUpto
    rcases Nat.lt_or_ge i k with h1 | h1
    · have := ih h1; omega
    · obtain rfl : i = k := by omega
      omega
theorem placeOf_lt (N n : Nat) (h : 0 < N) : placeOf N n < N := Nat.mod_lt _ h
theorem secN_some {S : List (List Int)} {n : Nat} {s : Sec} (h : secN S n = some s) : s.n = n ∧ readS (secAt S (placeOf S.length n)) = some s := by
  unfold secN at h
  cases e : readS (secAt S (placeOf S.length n)) with
  | none => rw [e] at h; cases h
  | some t =>
    rw [e] at h
    by_cases h2 : t.n = n
    · simp only [h2, if_true] at h
      injection h with h
      subst h
      exact ⟨h2, rfl⟩
    · simp [h2] at h
theorem counts_sec {S : List (List Int)} {n : Nat} {s : Sec} (h : secN S n = some s) (h1 : 1 ≤ n) : counts S (placeOf S.length n) = n := by
  obtain ⟨e1, e2⟩ := secN_some h
  unfold counts
  rw [e2]
  simp [e1, h1]
theorem secsFrom_of (S : List (List Int)) (f : Nat) (ss : List Sec) : ∀ k, k ≤ ss.length → (∀ i (h : i < ss.length), secN S (f + i) = some ss[i]) → secsFrom S f k = some (ss.take k) := by
  intro k
  induction k with
  | zero => intro _ _; rfl
  | succ k ih =>
    intro hk h
    rw [secsFrom, ih (by omega) h, h k (by omega)]
    simp only
    rw [List.take_succ_eq_append_getElem (by omega)]
theorem lastN_of (S : List (List Int)) (m : Nat) (h1 : 1 ≤ m) (hN : 0 < S.length) (s : Sec) (hs : secN S m = some s) (hc : ∀ i, i < S.length → counts S i ≤ m) : lastN S = m := by
  have h2 := lastUpto_le S m S.length hc
  have h3 := le_lastUpto S (placeOf S.length m) S.length (placeOf_lt _ _ hN)
  rw [counts_sec hs h1] at h3
  unfold lastN
  omega
/-- If the sectors f to m are there, none counts that has a greater number, and the last one tells f as the first, these are told. -/
theorem tells_of (S : List (List Int)) (f m : Nat) (ss : List Sec) (rs : List RecD) (hf : 1 ≤ f) (hm : f ≤ m) (hN : m - f < S.length) (hl : ss.length = m - f + 1) (hs : ∀ i (h : i < ss.length), secN S (f + i) = some ss[i]) (hlast : ∀ h : m - f < ss.length, ss[m - f].first = f) (hc : ∀ i, i < S.length → counts S i ≤ m) (hr : tellR ss = some rs) :
    tells S = some (⟨m + 1, f, f⟩, rs) := by
  have hi : m - f < ss.length := by omega
  have h1 := hs (m - f) hi
  rw [show f + (m - f) = m by omega] at h1
  have hm1 := lastN_of S m (by omega) (by omega) _ h1 hc
  unfold tells
  rw [hm1, if_neg (by omega), h1]
  simp only
  rw [hlast hi, if_neg (by omega), secsFrom_of S f ss (m - f + 1) (by omega) hs]
  simp only
  rw [List.take_of_length_le (by omega), hr]
theorem tells_none (S : List (List Int)) (hc : ∀ i, i < S.length → counts S i = 0) : tells S = some (⟨1, 1, 1⟩, []) := by
  have : lastN S = 0 := by
    have := lastUpto_le S 0 S.length (fun i hi => by rw [hc i hi]; exact Nat.le_refl _)
    unfold lastN; omega
  unfold tells
  rw [if_pos this]

/-! ### sectors that are written -/
def zeroS : List Int := zeros 32
theorem zero_front : zeroS.take 4 = zeroS.drop 28 := rfl
theorem read_zero (s : Sec) (h : readS zeroS = some s) : s.n = 0 := by
  unfold readS at h
  split at h
  · injection h with h
    rw [← h]
    rfl
  · cases h
theorem counts_zero {S : List (List Int)} {i : Nat} (h : secAt S i = zeroS) : counts S i = 0 := by
  unfold counts
  rw [h]
  cases e : readS zeroS with
  | none => rfl
  | some s =>
    have := read_zero s e
    simp [this]
theorem counts_not {S : List (List Int)} {i : Nat} (h : isSec (secAt S i) = false) : counts S i = 0 := by
  unfold counts readS
  rw [h]
  rfl
/-- Sectors as writes. -/
def puts (N : Nat) (ss : List Sec) : List (Nat × List Int) := ss.map fun s => (placeOf N s.n, secL s)
theorem puts_append (N : Nat) (a b : List Sec) : puts N (a ++ b) = puts N a ++ puts N b := by simp [puts]
theorem puts_length (N : Nat) (ss : List Sec) : (puts N ss).length = ss.length := by simp [puts]
theorem puts_take (N : Nat) (ss : List Sec) (k : Nat) : (puts N ss).take k = puts N (ss.take k) := by simp [puts, List.map_take]
/-- Sectors with the numbers 1, 2, .. -/
def Numbered (L : List Sec) : Prop := ∀ i (h : i < L.length), L[i].n = i + 1
def zeroD (N : Nat) : List (List Int) := List.replicate N zeroS
theorem secAt_zeroD (N i : Nat) (h : i < N) : secAt (zeroD N) i = zeroS := by simp [secAt, zeroD, h]
theorem carry_puts (N : Nat) (L : List Sec) (hL : Numbered L) (hN : L.length ≤ N) : ∀ k, k ≤ L.length → ∀ i, i < N → secAt (carry (zeroD N) (puts N (L.take k))) i = if h : i < k ∧ i < L.length then secL (L[i]'h.2) else zeroS := by
  intro k
  induction k with
  | zero => intro _ i hi; simp [puts, carry, secAt_zeroD N i hi]
  | succ k ih =>
    intro hk i hi
    have hk' : k < L.length := by omega
    rw [List.take_succ_eq_append_getElem hk', puts_append]
    have e1 : puts N [L[k]] = [(k, secL L[k])] := by
      simp only [puts, List.map_cons, List.map_nil, placeOf]
      rw [hL k hk', Nat.add_sub_cancel, Nat.mod_eq_of_lt (by omega)]
    rw [e1, carry_snoc, secAt_set _ _ _ _ (by rw [length_carry]; simpa [zeroD] using hi), ih (by omega) i hi]
    by_cases h : k = i
    · subst h
      simp [hk']
    · simp only [h, if_false]
      by_cases h2 : i < k
      · rw [dif_pos ⟨h2, by omega⟩, dif_pos ⟨by omega, by omega⟩]
      · rw [dif_neg (by omega), dif_neg (by omega)]
theorem secN_at {S : List (List Int)} {N i : Nat} {s : Sec} (hl : S.length = N) (hi : i < N) (ok : okS s) (hn : s.n = i + 1) (h : secAt S i = secL s) : secN S (i + 1) = some s := by
  unfold secN placeOf
  rw [hl, Nat.add_sub_cancel, Nat.mod_eq_of_lt hi, h, read_sec ok]
  simp [hn]
theorem counts_le {S : List (List Int)} {N i : Nat} {s : Sec} (hl : S.length = N) (hi : i < N) (ok : okS s) (hn : s.n = i + 1) (h : secAt S i = secL s) : counts S i = i + 1 := by
  unfold counts placeOf
  rw [h, read_sec ok, hl]
  simp only
  rw [hn]
  simp [Nat.mod_eq_of_lt hi]
/-- The first m sectors of a row are on a disk, and nothing else counts. -/
structure OnD (N : Nat) (S : List (List Int)) (L : List Sec) (m : Nat) : Prop where
  len : S.length = N
  le : m ≤ L.length
  lt : L.length ≤ N
  at_ : ∀ i (h : i < m), secAt S i = secL (L[i]'(by omega))
  rest : ∀ i, m ≤ i → i < N → counts S i = 0
/-- Whatever crash comes, a beginning of what was written is there, with all that lasted ahead of it. -/
theorem crash_on (N : Nat) (L : List Sec) (hL : Numbered L) (ok : ∀ s ∈ L, okS s) (hN : L.length ≤ N) (k : Nat) (hk : k ≤ L.length) (keep tear : Int) :
    ∃ m, k ≤ m ∧ OnD N (crashL (carry (zeroD N) (puts N (L.take k))) (puts N (L.drop k)) keep tear) L m := by
  have hlen : ∀ ws, (carry (zeroD N) ws).length = N := fun ws => by rw [length_carry]; simp [zeroD]
  have hkl : (puts N (L.drop k)).length = L.length - k := by rw [puts_length, List.length_drop]
  obtain ⟨c, hc⟩ : ∃ c, keptOf keep (puts N (L.drop k)).length = c := ⟨_, rfl⟩
  have hcle : c ≤ L.length - k := by rw [← hc, hkl]; unfold keptOf; omega
  have hcar : ∀ j, j ≤ L.length - k → carry (carry (zeroD N) (puts N (L.take k))) ((puts N (L.drop k)).take j) = carry (zeroD N) (puts N (L.take (k + j))) := fun j hj => by
    rw [← carry_append, puts_take, ← puts_append]
    congr 2
    rw [List.take_add]
  have base : ∀ j, j ≤ L.length → OnD N (carry (zeroD N) (puts N (L.take j))) L j := fun j hj => by
    refine ⟨hlen _, hj, hN, fun i h => ?_, fun i h1 h2 => ?_⟩
    · rw [carry_puts N L hL hN j hj i (by omega), dif_pos ⟨h, by omega⟩]
    · exact counts_zero (by rw [carry_puts N L hL hN j hj i h2, dif_neg (by omega)])
  unfold crashL
  rw [hc]
  rcases Nat.lt_or_ge c (L.length - k) with hlt | hge
  · have hkc : k + c < L.length := by omega
    have e : (puts N (L.drop k))[c]? = some (placeOf N L[k + c].n, secL L[k + c]) := by
      simp [puts, hkc]
    rw [e]
    simp only
    rw [hcar c (by omega)]
    obtain ⟨S, hS⟩ : ∃ S, carry (zeroD N) (puts N (L.take (k + c))) = S := ⟨_, rfl⟩
    have hb := base (k + c) (by omega)
    rw [hS] at hb ⊢
    have hpl : placeOf N L[k + c].n = k + c := by
      unfold placeOf; rw [hL _ hkc, Nat.add_sub_cancel, Nat.mod_eq_of_lt (by omega)]
    have hold : secAt S (k + c) = zeroS := by rw [← hS, carry_puts N L hL hN (k + c) (by omega) (k + c) (by omega), dif_neg (by omega)]
    have okc := ok L[k + c] (List.getElem_mem hkc)
    unfold tornS
    rw [hpl]
    simp only
    rw [hold]
    have hset : ∀ z i, i < N → secAt (S.set (k + c) z) i = if k + c = i then z else secAt S i := fun z i hi => secAt_set _ _ _ _ (by rw [hb.len]; exact hi)
    have stay : ∀ z, counts (S.set (k + c) z) (k + c) = 0 → OnD N (S.set (k + c) z) L (k + c) := fun z hz => by
      refine ⟨by simpa using hb.len, by omega, hN, fun i h => ?_, fun i h1 h2 => ?_⟩
      · rw [hset z i (by omega), if_neg (by omega)]; exact hb.at_ i h
      · by_cases h3 : k + c = i
        · rw [← h3]; exact hz
        · have := hb.rest i h1 h2
          unfold counts at this ⊢
          rw [hset z i h2, if_neg h3]
          simpa using this
    have hne : (secL L[k + c]).take 4 ≠ zeroS.take 4 := by
      rw [secL_front]
      intro h
      have h2 := congrArg fromN h
      rw [four_back _ okc.n, hL _ hkc] at h2
      have h3 : fromN (zeroS.take 4) = 0 := rfl
      omega
    rcases torn_is (secL L[k + c]) zeroS (tearOf tear) (secL_length okc) rfl (by rw [secL_front, secL_back okc]) zero_front hne (by unfold tearOf; omega) with h | h | h
    · rw [h]
      refine ⟨k + c + 1, by omega, by simpa using hb.len, by omega, hN, fun i hi => ?_, fun i h1 h2 => ?_⟩
      · rw [hset _ i (by omega)]
        by_cases h3 : k + c = i
        · subst h3; rw [if_pos rfl]
        · rw [if_neg h3]; exact hb.at_ i (by omega)
      · have := hb.rest i (by omega) h2
        unfold counts at this ⊢
        rw [hset _ i h2, if_neg (by omega)]
        simpa using this
    · rw [h]
      exact ⟨k + c, by omega, stay _ (counts_zero (by rw [hset _ _ (by omega), if_pos rfl]))⟩
    · exact ⟨k + c, by omega, stay _ (counts_not (by rw [hset _ _ (by omega), if_pos rfl]; exact h))⟩
  · have e : (puts N (L.drop k))[c]? = none := List.getElem?_eq_none (by rw [hkl]; omega)
    rw [e]
    simp only
    have h1 := hcar (L.length - k) (Nat.le_refl _)
    rw [List.take_of_length_le (l := puts N (L.drop k)) (by rw [hkl]; omega), show k + (L.length - k) = L.length by omega] at h1
    rw [h1]
    exact ⟨L.length, hk, base L.length (Nat.le_refl _)⟩
end Go.Proofs.Ytdmkkfpbgpijjaa

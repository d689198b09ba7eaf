/- The sums that the document fixes ('alive'), over what layer 2's calls answer. -/
import Derived.Test.YtnllacoimffjpaaSe
import Derived.Lib.SlBytesConst
import Derived.Laws.BytesArg
namespace Go.Proofs.Ytnllacoimffjpaa
open Go.RowKit Go.Deep

theorem sum_none : sumB [] = 11994318 := by decide +kernel
def nine : List Int := [49, 50, 51, 52, 53, 54, 55, 56, 57]
theorem sum_nine : sumB nine = 2215682 := by decide +kernel
def four : List Int := [49, 50, 51, 52]
def five : List Int := [53, 54, 55, 56, 57]
theorem sum_four : crc (low24 ((sumB four : Nat) : Int)) (bytesOf five) = 2215682 := by decide +kernel
theorem sum_four_lt : sumB four < 16777216 := by decide +kernel
theorem bytes_ab : isBytes [97, 98] := by unfold isBytes; decide
theorem bytes_nine : isBytes nine := by unfold nine isBytes; decide
theorem bytes_four : isBytes four := by unfold four isBytes; decide
theorem bytes_tail : isBytes [33, 207, 2] := by unfold isBytes; decide
theorem fits_nine : (threeL (sumB nine) == [33, 207, 2]) = true := by decide +kernel
theorem three_one : threeL (low24 66051) = [1, 2, 3] := by decide +kernel
theorem bytes_five : isBytes five := by unfold five isBytes; decide

theorem good_lit (w : World) (zs : List Int) (C : Array Value) (n : Nat) (fz : Nat × Nat) (hC : C = (zs.map (Value.int .u8)).toArray) (hn : zs.length = n) : Good (some ⟨w.heap.size, 0, none⟩) n zs (w.alloc (.cells C 5 fz)) := by
  subst hC hn
  refine ⟨fun _ => ⟨w.heap.size, 0, rfl, by simp, fun j hj => ?_⟩, Nat.le_refl _, fun e => by cases e⟩
  rw [Nat.zero_add, cell_of_row _ w.heap.size j _ 5 fz (heap_alloc_new w _)]
  simp [hj]

theorem good_lit2 (w W : World) (zs : List Int) (C : Array Value) (n : Nat) (fz : Nat × Nat) (hC : C = (zs.map (Value.int .u8)).toArray) (hn : zs.length = n) (o : Obj) (hW : W = w.alloc o) : Good (some ⟨w.heap.size + 1, 0, none⟩) n zs (W.alloc (.cells C 5 fz)) := by
  have h := good_lit W zs C n fz hC hn
  have e : W.heap.size = w.heap.size + 1 := by rw [hW]; simp
  rw [e] at h
  exact h

theorem good_string (P : Program) (b off c : Nat) (zs : List Int) (l : Nat) (hl : zs.length = l) (w : World) (g : Good (some ⟨b, off, none⟩) c zs w) (src dst e : TypeId) (hs : P.underlying src = some (.slice e)) (he : P.underlying e = some (.int .u8)) (hd : P.underlying dst = some .string) : (convert src dst (.slice (some ⟨b, off, none⟩) l c)).run P w = .ok (.string (strOfNums zs)) w := by
  refine run_convert_bytes_arg w src e hs he b off l c zs hl (fun i hi => ?_) dst hd
  obtain ⟨b', off', e', _, hc⟩ := g.1 (by omega)
  cases e'
  rw [hc i (by omega)]
  simp [List.getD]

set_option maxRecDepth 100000 in
set_option maxHeartbeats 2000000 in
theorem alive_of (S : SumOK) (w : World) : Alive w := by
  unfold Alive
  have kc := fun (w : World) (C : Array Value) (n c : Nat) => Lib.run_convert_bytes_const (P := Try.prog) w 22 5 C n c Try.underlying22 Try.underlying5
  have hab := open_seal [97, 98]
  have c1 := Lib.hid (fun A c W => S.seals A [97, 98] _ c 2 rfl bytes_ab (by omega) rfl W)
  have c2 := Lib.hid (fun A c W => S.opens A (sealL [97, 98]) [97, 98] c 5 true rfl (sealL_bytes bytes_ab) (by omega) hab.1 hab.2 W)
  have c3 := Lib.hid (fun W => S.sum none [] 0 0 11994318 rfl (fun z hz => by cases hz) (by omega) sum_none W (Good.nil W))
  have c4 := Lib.hid (fun A c W => S.sum A nine c 9 2215682 rfl bytes_nine (by omega) sum_nine W)
  have c5 := Lib.hid (fun W => S.three 66051 [1, 2, 3] (by omega) (by omega) three_one W)
  have c6 := Lib.hid (fun A A' c c' W => sameB A A' [1, 2, 3] [1, 2, 3] c c' 3 3 true rfl rfl (by omega) (by omega) (by decide) W)
  obtain ⟨q, hq⟩ : ∃ q, sumB four = q := ⟨_, rfl⟩
  have hql : q < 16777216 := by rw [← hq]; exact sum_four_lt
  have c7 := Lib.hid (fun A c W => S.sum A four c 4 q rfl bytes_four (by omega) hq W)
  have c8 := Lib.hid (fun A c W => S.more q A five c 5 2215682 (by omega) (by omega) rfl bytes_five (by omega) (by rw [← hq]; exact sum_four) W)
  have c9 := Lib.hid (fun A A' c c' W => S.fits A A' nine [33, 207, 2] c c' 9 3 true rfl rfl bytes_nine bytes_tail (by omega) (by omega) fits_nine W)
  clear hab hq hql S
  go_enter Try.func8, Try.ntmps8
  go_wp2_with fail
  refine (c1.out _ _ _ (good_lit w [97, 98] _ 2 _ rfl rfl)).mono ?_
  rintro e w2 ⟨v2, rfl, o2, k2⟩
  obtain ⟨A2, k2', rfl, g2⟩ := o2.good
  have b2 : Below w.heap.size w w2 := ((Below.refl _ w).alloc (Nat.le_refl _) _).trans (k2.mono (by simp))
  clear o2 k2 c1
  rw [show (sealL [97, 98]).length = 5 from rfl]
  go_wp2_with fail
  refine (c2.out A2 k2' w2 g2).mono ?_
  rintro e w3 ⟨A3, k3', rfl, g3, k3⟩
  have b3 := below_more b2 k3 (Nat.le_refl _)
  clear k3 c2 b2 g2
  obtain ⟨b', off', rfl⟩ := g3.some (by decide)
  rw [show ([97, 98] : List Int).length = 2 from rfl]
  go_wp2_with fail
  refine (c3.out w3).mono ?_
  rintro e w4 ⟨rfl, k4⟩
  have b4 := below_more b3 k4 (Nat.le_refl _)
  have g4 := g3.below k4
  clear k4 c3 b3 g3
  go_wp2_with fail
  refine (c4.out _ _ _ (good_lit w4 nine _ 9 _ rfl rfl)).mono ?_
  rintro e w5 ⟨rfl, k5⟩
  have b5 : Below w.heap.size w w5 := (b4.alloc b4.size _).trans (k5.mono (by have := b4.size; simp; omega))
  have g5 := (g4.alloc _).below k5
  clear k5 c4 b4 g4
  have hstr := good_string Try.prog b' off' k3' [97, 98] 2 rfl w5 g5 22 9 5 Try.underlying22 Try.underlying5 Try.underlying9
  rw [show strOfNums [97, 98] = ⟨#[97, 98]⟩ by decide] at hstr
  go_wp2_with fail
  clear hstr g5
  refine (c5.out w5).mono ?_
  rintro e w6 ⟨v6, rfl, o6, k6⟩
  obtain ⟨A6, k6', rfl, g6⟩ := o6.good
  have b6 := below_more b5 k6 (Nat.le_refl _)
  clear o6 k6 c5 b5
  rw [show ([1, 2, 3] : List Int).length = 3 from rfl]
  go_wp2_with fail
  refine (c6.out _ _ _ _ _ (g6.alloc _) (good_lit w6 [1, 2, 3] _ 3 _ rfl rfl)).mono ?_
  rintro e w7 ⟨rfl, k7⟩
  have b7 : Below w.heap.size w w7 := (b6.alloc b6.size _).trans (k7.mono (by have := b6.size; simp; omega))
  clear k7 c6 b6 g6
  go_wp2_with fail
  refine (c7.out _ _ _ (good_lit w7 four _ 4 _ rfl rfl)).mono ?_
  rintro e w8 ⟨rfl, k8⟩
  have b8 : Below w.heap.size w w8 := (b7.alloc b7.size _).trans (k8.mono (by have := b7.size; simp; omega))
  clear k8 c7 b7
  go_wp2_with fail
  refine (c8.out _ _ _ (good_lit w8 five _ 5 _ rfl rfl)).mono ?_
  rintro e w9 ⟨rfl, k9⟩
  have b9 : Below w.heap.size w w9 := (b8.alloc b8.size _).trans (k9.mono (by have := b8.size; simp; omega))
  clear k9 c8 b8
  go_wp2_with fail
  have gn := good_lit w9 nine _ 9 (9, 10) rfl rfl
  have gl := good_lit2 w9 _ [33, 207, 2] _ 3 (0, 0) rfl rfl (.cells (nine.map (Value.int .u8)).toArray 5 (9, 10)) rfl
  refine (c9.out _ _ _ _ _ (gn.alloc _) gl).mono ?_
  clear gn gl
  rintro e w10 ⟨rfl, k10⟩
  have b10 : Below w.heap.size w w10 := ((b9.alloc b9.size _).alloc (by have := b9.size; simp; omega) _).trans (k10.mono (by have := b9.size; simp; omega))
  clear k10 c9 b9
  go_wp2
  go_ret
  exact ⟨rfl, b10⟩
end Go.Proofs.Ytnllacoimffjpaa

/- What the library's calls answer that layer 2 uses: bytes.Equal, bytes.Clone, slices.Grow of nil, slices.Concat of two. -/
import Derived.Test.YtnllacoimffjpaaSk
import Derived.Lib.AppendZeros
import Derived.Lib.SliceRun
import Derived.Lib.Bytes
import Derived.Laws.BytesArg
namespace Go.Proofs.Ytnllacoimffjpaa
open Go.RowKit Go.Deep

theorem strOfNums_inj {xs ys : List Int} (hx : isBytes xs) (hy : isBytes ys) : (strOfNums xs = strOfNums ys) ↔ xs = ys := by
  constructor
  · intro h
    have h1 : (strOfNums xs).data.toList = (strOfNums ys).data.toList := by rw [h]
    rw [strOfNums_data, strOfNums_data] at h1
    have hl : xs.length = ys.length := by have := congrArg List.length h1; simpa using this
    apply List.ext_getElem hl
    intro i h2 h3
    have e : (xs.map fun n => UInt8.ofNat n.toNat)[i]? = (ys.map fun n => UInt8.ofNat n.toNat)[i]? := by rw [h1]
    simp [h2, h3] at e
    have e2 := congrArg UInt8.toNat e
    have a := hx _ (List.getElem_mem h2)
    have b := hy _ (List.getElem_mem h3)
    simp at e2
    omega
  · rintro rfl; rfl
theorem str_good (A : Option Addr) (c : Nat) (zs : List Int) (l : Nat) (hl : zs.length = l) (w : World) (g : Good A c zs w) (src dst e : TypeId) (hs : Try.prog.underlying src = some (.slice e)) (he : Try.prog.underlying e = some (.int .u8)) (hd : Try.prog.underlying dst = some .string) : (convert src dst (.slice A l c)).run Try.prog w = .ok (.string (strOfNums zs)) w := by
  by_cases h0 : 0 < zs.length
  · obtain ⟨b, off, rfl, _, hc⟩ := g.1 h0
    refine run_convert_bytes_arg w src e hs he b off l c zs hl (fun i hi => ?_) dst hd
    rw [hc i (by omega)]
    simp [List.getD]
  · obtain rfl : zs = [] := List.eq_nil_of_length_eq_zero (by omega)
    obtain rfl : l = 0 := by simpa using hl.symm
    rw [run_convert_bytes_string w src dst e _ 0 c hs he hd]
    cases A <;> simp [Conv.bytesToString, loadCells] <;> rfl

set_option maxHeartbeats 1000000 in
theorem equal_any (A A' : Option Addr) (xs ys : List Int) (c c' l l' : Nat) (o : Bool) (hll : xs.length = l) (hll' : ys.length = l') (hx : isBytes xs) (hy : isBytes ys) (ho : (xs == ys) = o) (w : World) (g : Good A c xs w) (g' : Good A' c' ys w) :
    Calls Try.prog 25 #[.slice A l c, .slice A' l' c'] w fun e w' => e = .returned (.bool o) ∧ w = w' := by
  have k1 := str_good A c xs l hll w g 22 9 5 Try.underlying22 Try.underlying5 Try.underlying9
  have k2 := str_good A' c' ys l' hll' w g' 22 9 5 Try.underlying22 Try.underlying5 Try.underlying9
  have hi := Lib.hid (strOfNums_inj hx hy)
  clear g g' hll hll' hx hy
  go_enter Try.func25, Try.ntmps25
  go_wp2
  go_ret
  refine ⟨?_, rfl⟩
  show Ending.returned (.bool ((strOfNums xs).toList == (strOfNums ys).toList)) = _
  rw [← ho, Lib.strOfNums_toList, Lib.strOfNums_toList]
  congr 2
  rw [Bool.eq_iff_iff, beq_iff_eq, beq_iff_eq, ← hi.out]
  constructor
  · intro h
    have h2 : (strOfNums xs).data = (strOfNums ys).data := Array.toList_inj.1 (by rw [strOfNums_data, strOfNums_data]; exact h)
    exact ByteArray.ext h2
  · intro h; rw [← Lib.strOfNums_toList, ← Lib.strOfNums_toList, h]

set_option maxHeartbeats 1000000 in
theorem clone_any (A : Option Addr) (zs : List Int) (c l : Nat) (hll : zs.length = l) (hl : l ≤ 2100) (w : World) (h : Good A c zs w) :
    Calls Try.prog 22 #[.slice A l c] w (GivesB zs w) := by
  obtain ⟨i0, hi, hz0, hz1, hz2⟩ := info_parts info_u8
  have q22 : ∀ (w : World) (a : Option Addr) (n c n' c' : Nat), (binOp .eql 22 (.slice a n c) (.slice none n' c')).run Try.prog w = .ok (.bool a.isNone) w := fun w a n c n' c' => Lib.run_eql_slice_nil w _ _ a n c n' c' Try.underlying22
  cases A with
  | none =>
    obtain ⟨rfl, rfl⟩ := h.none_nil
    obtain rfl : l = 0 := by simpa using hll.symm
    clear hll
    go_enter Try.func22, Try.ntmps22
    go_wp2
    go_ret
    exact ⟨_, rfl, ⟨rfl, .inl ⟨rfl, rfl⟩⟩, Below.refl _ _⟩
  | some ad =>
    have hlit : Owns w.heap.size (w.alloc (.cells #[] 5)) (.slice (some ⟨w.heap.size, 0, none⟩) 0 0) [] := World.ownsRow_lit w #[] 0 (Nat.le_refl _) (by simp) (by simp)
    have hg := h.alloc (.cells #[] 5)
    go_enter Try.func22, Try.ntmps22
    go_wp2_with (at_builtin; refine wpList_appendB rfl _ _ rfl w.heap.size _ [] rfl hlit _ zs l c rfl hll hg (by simp; omega) (by simp) w ((Below.refl _ _).alloc (Nat.le_refl _) _) ?_; intro v' w1 hown hbel)
    go_ret
    exact ⟨v', rfl, hown, hbel⟩

set_option maxHeartbeats 1000000 in
theorem grow_nil (n : Nat) (h0 : 0 < n) (hn : n ≤ 10000) (w : World) :
    Calls Try.prog 27 #[.slice none 0 0, .int .i64 n] w (GivesB [] w) := by
  obtain ⟨i0, hi, hz0, hz1, hz2⟩ := info_parts info_u8
  have hr := fun ty => Lib.run_append_nil_zeros (P := Try.prog) w 22 3 ty 5 i0 (.int .u8 0) .i64 .i64 Try.underlying22 Try.underlying3 hi hz0 n h0 (by omega) (by omega) (by rw [hz2]; omega)
  have hG := grownCap_ge w n 0 5
  have hG2 := grownCap_le_maxLen w n 0 5 (by unfold maxLen; omega)
  generalize grownCap w n 0 5 = G at *
  have hG63 : G ≤ 9223372036854775807 := by unfold maxLen at hG2; omega
  go_enter Try.func27, Try.ntmps27
  go_wp2_with (at_builtin; refine Lib.wpList_append_run _ rfl _ _ _ _ rfl _ _ rfl rfl _ _ (hr _) ?_)
  all_goals
    go_ret
    refine ⟨_, rfl, ⟨rfl, .inr ⟨w.heap.size, G, _, rfl, Nat.le_refl _, heap_alloc_new w _, Nat.zero_le _, hG2, ?_, rfl⟩⟩, ((Below.refl _ _).alloc (Nat.le_refl _) _).drew⟩
    simp [size_zeroCells]
    omega

/-- A row of two slices. -/
def TwoAt (B : Nat) (v1 v2 : Value) (w : World) : Prop := w.cell? ⟨B, 0, none⟩ = some v1 ∧ w.cell? ⟨B, 1, none⟩ = some v2 ∧ B < w.heap.size
theorem TwoAt.below {B : Nat} {v1 v2 : Value} {w w' : World} (h : TwoAt B v1 v2 w) (hb : Below w.heap.size w w') : TwoAt B v1 v2 w' :=
  ⟨(hb.cell h.2.2).trans h.1, (hb.cell h.2.2).trans h.2.1, Nat.lt_of_lt_of_le h.2.2 hb.size⟩

set_option maxHeartbeats 1000000 in
theorem concat_two (B : Nat) (A A' : Option Addr) (xs ys : List Int) (c c' l l' : Nat) (hll : xs.length = l) (hll' : ys.length = l') (h0 : 0 < l + l') (hl : l ≤ 2200) (hl' : l' ≤ 2200) (w : World) (hB : TwoAt B (.slice A l c) (.slice A' l' c') w) (g : Good A c xs w) (g' : Good A' c' ys w) :
    Calls Try.prog 26 #[.slice (some ⟨B, 0, none⟩) 2 2] w (GivesB (xs ++ ys) w) := by
  have hb1 := hB.1
  have hb2 := hB.2.1
  go_enter Try.func26, Try.ntmps26
  go_wp2
  go_loop [3, 5, 11] (fun s _ i => (i = .int .i64 0 ∧ s = .int .i64 0) ∨ (i = .int .i64 1 ∧ s = .int .i64 l) ∨ (i = .int .i64 2 ∧ s = .int .i64 ((l : Int) + l'))) (fun _ _ i => 2 - (intOf i).toNat)
  case atStart => exact .inl ⟨rfl, rfl⟩
  case round =>
    rcases hrel with ⟨rfl, rfl⟩ | ⟨rfl, rfl⟩ | ⟨rfl, rfl⟩
    · go_wp2
      go_round
      case rel => exact .inr (.inl ⟨rfl, rfl⟩)
      case measure => decide
    · go_wp2
      go_round
      case rel => exact .inr (.inr ⟨rfl, rfl⟩)
      case measure => decide
    · have cg := grow_nil (l + l') h0 (by omega) w
      rw [Int.natCast_add] at cg
      go_wp2_with (go_at_call 27; refine cg.mono ?_; rintro e w1 ⟨v, rfl, hown, hbel⟩)
      clear cg hb1 hb2
      go_loopw [6, 8, 27] (fun v _ i wr => ∃ zs, ((i = .int .i64 0 ∧ zs = []) ∨ (i = .int .i64 1 ∧ zs = xs) ∨ (i = .int .i64 2 ∧ zs = xs ++ ys)) ∧ Owns w.heap.size wr v zs ∧ Below w.heap.size w wr) (fun _ _ i _ => 2 - (intOf i).toNat)
      case atStart => exact ⟨[], .inl ⟨rfl, rfl⟩, hown, hbel⟩
      case round =>
        obtain ⟨zs, hk, hown, hbel⟩ := hrel
        have hb1 := (hB.below hbel).1
        have hb2 := (hB.below hbel).2.1
        have g1 := g.below hbel
        have g2 := g'.below hbel
        rcases hk with ⟨rfl, rfl⟩ | ⟨rfl, rfl⟩ | ⟨rfl, rfl⟩
        · go_wp2_with (at_builtin; refine wpList_appendB rfl _ _ rfl w.heap.size _ [] rfl hown _ xs l c rfl hll g1 (by simp; omega) hbel.size w hbel ?_; intro v' w2 hown2 hbel2)
          go_roundw
          case rel => exact ⟨_, .inr (.inl ⟨rfl, rfl⟩), hown2, hbel2⟩
          case measure => decide
        · go_wp2_with (at_builtin; refine wpList_appendB rfl _ _ rfl w.heap.size _ zs rfl hown _ ys l' c' rfl hll' g2 (by omega) hbel.size w hbel ?_; intro v' w2 hown2 hbel2)
          go_roundw
          case rel => exact ⟨_, .inr (.inr ⟨rfl, rfl⟩), hown2, hbel2⟩
          case measure => decide
        · go_wp2
          go_ret
          exact ⟨_, rfl, hown, hbel⟩
end Go.Proofs.Ytnllacoimffjpaa

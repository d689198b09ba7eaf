/- Layer 1 for the stages above it: word.From: the word of bytes, for every list of bytes. -/
import Derived.Test.YtcodphddkkjocaaGreatDoorVd
namespace Go.Proofs.YtcodphddkkjocaaGreatDoor
open Go.RowKit Go.Shelf

attribute [local go_sem] Oper.semAt_some

def fstep (u z : Nat) : Nat := u * 256 % 18446744073709551616 + z
def fF (zs : List Int) (L : List Nat) : Nat := L.foldl (fun u i => fstep u (zs[i]?.getD 0).toNat) 0
def fromN : List Int → Nat
  | [] => 0
  | z :: zs => z.toNat + 256 * fromN zs
theorem fromN_cons (z : Int) (zs : List Int) : fromN (z :: zs) = z.toNat + 256 * fromN zs := rfl
theorem isBytes_at (zs : List Int) (h : isBytes zs) (i : Nat) : 0 ≤ zs[i]?.getD 0 ∧ zs[i]?.getD 0 < 256 := by
  by_cases hi : i < zs.length
  · have := h zs[i] (by simp)
    simp [hi]; omega
  · simp [hi]
theorem fromN_lt (zs : List Int) (h : isBytes zs) : fromN zs < 256 ^ zs.length := by
  induction zs with
  | nil => simp [fromN]
  | cons z zs ih =>
    have h1 := ih (fun y hy => h y (by simp [hy]))
    have h2 := h z (by simp)
    rw [List.length_cons, Nat.pow_succ]
    rw [fromN_cons]
    omega
theorem fF_down (zs : List Int) (h : isBytes zs) (hl : zs.length ≤ 8) : ∀ k, k ≤ zs.length → fF zs (downL zs.length k) = fromN (zs.drop (zs.length - k)) := by
  intro k
  induction k with
  | zero => intro _; simp [downL, fF, fromN]
  | succ k ih =>
    intro hk
    have e1 : fF zs (downL zs.length (k + 1)) = fstep (fF zs (downL zs.length k)) (zs[zs.length - 1 - k]?.getD 0).toNat := by
      rw [downL_succ]; unfold fF; rw [List.foldl_append]; rfl
    have hi : zs.length - (k + 1) < zs.length := by omega
    have e2 : zs.drop (zs.length - (k + 1)) = zs[zs.length - (k + 1)] :: zs.drop (zs.length - k) := by
      rw [List.drop_eq_getElem_cons hi, show zs.length - (k + 1) + 1 = zs.length - k by omega]
    have hlt := fromN_lt (zs.drop (zs.length - k)) (fun y hy => h y (List.mem_of_mem_drop hy))
    rw [List.length_drop, show zs.length - (zs.length - k) = k by omega] at hlt
    have hp : 256 ^ k ≤ 256 ^ 7 := Nat.pow_le_pow_right (by decide) (by omega)
    rw [e1, ih (by omega), e2, fromN_cons]
    unfold fstep
    rw [show zs.length - 1 - k = zs.length - (k + 1) by omega]
    simp only [List.getElem?_eq_getElem hi, Option.getD_some]
    rw [Nat.mod_eq_of_lt (by omega)]
    omega
theorem fF_snoc (zs : List Int) (pre : List (Pl zs.length)) (x : Pl zs.length) : fF zs ((pre ++ [x]).map (·.1)) = fstep (fF zs (pre.map (·.1))) (zs[x.1]?.getD 0).toNat := by
  simp [fF]
theorem fstep_lt (u z : Nat) (hz : z < 256) : fstep u z < 18446744073709551616 := by unfold fstep; omega
theorem fF_lt (zs : List Int) (h : isBytes zs) (L : List Nat) : fF zs L < 18446744073709551616 := by
  rcases List.eq_nil_or_concat L with rfl | ⟨L', x, rfl⟩
  · simp [fF]
  · unfold fF
    rw [List.concat_eq_append, List.foldl_append]
    have := isBytes_at zs h x
    exact fstep_lt _ _ (by omega)
theorem fstep_walk (u : Nat) (z : Int) (h1 : 0 ≤ z) (h2 : z < 256) : bits .or .u64 (IntKind.u64.wrap ((u : Int) * 256)) z = ((fstep u z.toNat : Nat) : Int) := by
  have e : IntKind.u64.wrap ((u : Int) * 256) = ((u * 256 % 18446744073709551616 : Nat) : Int) := by rw [IntKind.wrap_u64]; omega
  have ez : z = (z.toNat : Int) := by omega
  have em : u * 256 % 18446744073709551616 = (u * 256 % 18446744073709551616 / 256) * 2 ^ 8 := by omega
  have hz : z.toNat < 2 ^ 8 := by omega
  rw [e]
  conv => lhs; rw [ez]
  rw [bits_or_u64_nat _ _ (by omega) (by omega)]
  unfold fstep
  rw [em, or_disjoint _ _ 8 hz]

set_option maxRecDepth 100000 in
set_option maxHeartbeats 2000000 in
theorem from_in (F : Fence) (n : Nat) (h0 : F.fn 25) (h1 : F.fn 43) (h2 : F.fn 57) (hro : F.round = none) (hn : 3 ≤ n) (A : Option Addr) (cap : Nat) (zs : List Int) (hz : isBytes zs) (hl : zs.length ≤ 8) (w : World) (hI : Ints .u8 w.heap.size w A zs) :
    CallsIn F n Tryz.prog 25 #[.slice A zs.length cap] w fun e W' => e = .returned (.tuple #[.int .u64 (fromN zs), .bool true]) ∧ Below w.heap.size w W' := by
  have hn1 : 1 ≤ n := by omega
  have hd : decide ((8 : Int) < (zs.length : Int)) = false := by simp; omega
  refine callsIn_of_wp_marks Tryz.func25 rfl h0 ?_ hro
  simp only [Tryz.ntmps25, List.size_toArray, List.length_cons, List.length_nil, Nat.reduceAdd, Nat.reduceSub, Array.replicate_succ, Array.replicate_zero, List.push_toArray, List.append_toArray, List.nil_append, List.cons_append]
  gi_wp2_with (gi_at_call 43; refine (backBytes_in F (n - 1) h1 hro _ _ _ _).mono ?_; rintro e w' ⟨rfl, rfl⟩)
  have bS := Boxed.new w 22 (.int .u64 0)
  have bN := Boxed.new (w.alloc (.cells #[.int .u64 0] 22)) 25 (.slice A zs.length cap)
  rw [World.size_alloc] at bN
  have hB0 : Below w.heap.size w ((w.alloc (.cells #[.int .u64 0] 22)).alloc (.cells #[.slice A zs.length cap] 25)) := ((Below.refl _ w).alloc (Nat.le_refl _) _).alloc (by simp) _
  refine wpIn_rangeFunc_ownG hro hn1 (gf := 57) (lb := #[.pointer (some ⟨w.heap.size + 1, 0, none⟩)]) rfl h2 (enters_of Tryz.func57 (by kernel_rfl) rfl)
    (backBytes_stops F (n - 1) h2 hro (by omega) (w.heap.size + 1) w.heap.size cap A zs (by omega) _ (by simp) (by simp; omega) bN.cell (hI.below hB0 (Nat.le_refl _))) KB.trans (kb_b (by simp; omega) (by simp)) (Below.refl _ _) (fun _ => rfl)
    (fun pre W => (W.cell? ⟨w.heap.size, 0, none⟩ = some (.int .u64 ((fF zs (pre.map (·.1)) : Nat) : Int)) ∧ W.frozen? ⟨w.heap.size, 0, none⟩ = false) ∧ Below w.heap.size w W)
    (fun _ _ _ => False)
    (OwnFrom.and (Own.from (fun s A B row hs hg hr => ⟨cell_kept hs.1 hg hr, (frozen_kept hs.1 hg hr).trans hs.2⟩) _) (ownFrom_below (Nat.le_refl _) (by simp; omega)))
    (fun _ _ _ _ _ hs _ _ => hs)
    ⟨⟨(bS.alloc _).cell, (bS.alloc _).frozen⟩, hB0⟩
    (fun x => { tmps := #[Value.slice A zs.length cap, undef, Value.int IntKind.u64 0, Value.bool false, .pointer (some ⟨w.heap.size, 0, none⟩), undef, .int .u8 (zs[x.1]?.getD 0), .slice A zs.length cap, .int .i64 zs.length, .bool false, .slice A zs.length cap, .func (.func 57) #[] #[.pointer (some ⟨w.heap.size + 1, 0, none⟩)], .int .i64 (x.1 : Int), .int .u8 (zs[x.1]?.getD 0), undef, undef, undef, undef, undef, undef], defers := [] }) ?assign ?body ?done ?stop
  case assign =>
    intro l x W K hK
    generalize zs[x.1]?.getD 0 = z at *
    gi_wp2
    exact hK
  case body =>
    rintro l pre x W ⟨⟨hc, hf⟩, hB⟩ _
    obtain ⟨hz1, hz2⟩ := isBytes_at zs hz x.1
    have hw := fstep_walk (fF zs (pre.map (·.1))) (zs[x.1]?.getD 0) hz1 hz2
    have hu := fF_lt zs hz (pre.map (·.1))
    have hsn := Lib.hid (fF_snoc zs pre x)
    generalize zs[x.1]?.getD 0 = z at *
    generalize fF zs (pre.map (·.1)) = u at *
    gi_wp2
    exact ⟨(KeepsOthers.setCell _ _ _).from _, (KB.refl _ _ W).setCell (p := ⟨w.heap.size, 0, none⟩) (Nat.le_refl _) (by simp) _, ⟨by rw [hsn.out]; exact World.cell?_setCell_same' _ _ _ (by rw [hc]; rfl), by rw [World.frozen?_setCell]; exact hf⟩, hB.setCell (p := ⟨w.heap.size, 0, none⟩) (Nat.le_refl _) _⟩
  case done =>
    rintro D ys W hD hys ⟨⟨hc, _⟩, hB⟩ hK
    rw [hys, fF_down zs hz hl zs.length (Nat.le_refl _), Nat.sub_self, List.drop_zero] at hc
    gi_wp2
    refine ⟨by simp, .inl ⟨_, _, rfl, run_takeDeferred hK, ?_⟩⟩
    exact ⟨_, results_tmp2 rfl _ _ _, rfl, hB.trans (belowK_b (w := w) (Nat.le_refl _) W D _ _ (by simp at hD; omega) hK rfl rfl)⟩
  case stop =>
    rintro D c pre W _ _ h _
    exact h.elim
end Go.Proofs.YtcodphddkkjocaaGreatDoor

/- set.Read: what is read of a text, for every text of at most 1000 bytes. -/
import Derived.Test.YthmccldkknhejaaDoorPj
namespace Go.Proofs.YthmccldkknhejaaDoor
open Go.RowKit Go.Shelf

attribute [local go_sem] Oper.semAt_some
set_option linter.unusedVariables false

theorem show_any (s : Nat) (hs : s < 18446744073709551616) (w : World) (hG : Gnd w) : Calls Tryd.prog 24 #[.int .u64 s] w fun e w' => e = .returned (.string (strB (textB s))) ∧ Below w.heap.size w w' := by
  by_cases h0 : s = 0
  · subst h0; exact show_zero w
  · exact callsIn_wide.1 (show_in 4 (Nat.le_refl _) s hs h0 w hG.tab hG.lt)
def txts (ys : List Txt) : List (List UInt8) := ys.map (·.1)
theorem txts_snoc (ys : List Txt) (x : Txt) : txts (ys ++ [x]) = txts ys ++ [x.1] := by simp [txts]
/-- The set of a text's first parts. -/
def partsN (ps : List (List UInt8)) : Nat := ps.foldl (fun u p => u ||| readStrN p) 0
theorem parts_lt (ps : List (List UInt8)) : partsN ps < 18446744073709551616 := foldl_lt _ readStr_lt _ _ (by decide)
theorem parts_snoc (ps : List (List UInt8)) (p : List UInt8) : partsN (ps ++ [p]) = partsN ps ||| readStrN p := by simp [partsN]

set_option maxRecDepth 100000 in
set_option maxHeartbeats 2000000 in
theorem read_in (n : Nat) (hn : 5 ≤ n) (t : List UInt8) (u : Nat) (o : Bool) (ht : t.length ≤ 1000) (hu : readN t = (u, o)) (w : World) (hG : Gnd w) :
    CallsIn Fence.wide n Tryd.prog 13 #[.string (strB t)] w fun e w' => e = .returned (.tuple #[.int .u64 u, .bool o]) ∧ Below w.heap.size w w' := by
  have hro : Fence.wide.round = none := rfl
  have hn1 : 1 ≤ n := by omega
  refine callsIn_of_wp_marks Tryd.func13 rfl trivial ?_ hro
  simp only [Tryd.ntmps13, List.size_toArray, List.length_cons, List.length_nil, Nat.reduceAdd, Nat.reduceSub, Array.replicate_succ, Array.replicate_zero, List.push_toArray, List.append_toArray, List.nil_append, List.cons_append]
  gi_wp2_with fail
  refine ⟨trivial, (SplitSeq_in (n - 1) (by omega) _ _).mono ?_⟩
  rintro e w' ⟨rfl, rfl⟩
  gi_wp2_with fail
  have b0 := Boxed.new w 23 (.int .u64 0)
  have b1 := Boxed.new (w.alloc (.cells #[.int .u64 0] 23)) 9 (.string (strB t))
  have b2 := Boxed.new ((w.alloc (.cells #[.int .u64 0] 23)).alloc (.cells #[.string (strB t)] 9)) 9 (.string ⟨#[44]⟩)
  have b3 := Boxed.new (((w.alloc (.cells #[.int .u64 0] 23)).alloc (.cells #[.string (strB t)] 9)).alloc (.cells #[.string ⟨#[44]⟩] 9)) 3 (.int .i64 0)
  simp only [World.size_alloc] at b1 b2 b3
  have c0 := ((b0.alloc (.cells #[.string (strB t)] 9)).alloc (.cells #[.string ⟨#[44]⟩] 9)).alloc (.cells #[.int .i64 0] 3)
  have c1 := (b1.alloc (.cells #[.string ⟨#[44]⟩] 9)).alloc (.cells #[.int .i64 0] 3)
  have c2 := b2.alloc (.cells #[.int .i64 0] 3)
  have hB0 : Below w.heap.size w ((((w.alloc (.cells #[.int .u64 0] 23)).alloc (.cells #[.string (strB t)] 9)).alloc (.cells #[.string ⟨#[44]⟩] 9)).alloc (.cells #[.int .i64 0] 3)) :=
    ((((Below.refl _ w).alloc (Nat.le_refl _) _).alloc (by simp) _).alloc (by simp; omega) _).alloc (by simp; omega) _
  have hsz : ((((w.alloc (.cells #[.int .u64 0] 23)).alloc (.cells #[.string (strB t)] 9)).alloc (.cells #[.string ⟨#[44]⟩] 9)).alloc (.cells #[.int .i64 0] 3)).heap.size = w.heap.size + 4 := by simp
  clear b0 b1 b2
  generalize hW0 : (((w.alloc (.cells #[.int .u64 0] 23)).alloc (.cells #[.string (strB t)] 9)).alloc (.cells #[.string ⟨#[44]⟩] 9)).alloc (.cells #[.int .i64 0] 3) = W0 at *
  clear hW0
  refine range_on (α := Txt) (S := fun ys : List Txt => txts ys = splitC t) hro hn1 (gf := 56) (lb := #[.pointer (some ⟨w.heap.size + 1 + 1, 0, none⟩), .pointer (some ⟨w.heap.size + 1, 0, none⟩), .pointer (some ⟨w.heap.size + 1 + 2, 0, none⟩)]) rfl trivial (enters_of Tryd.func56 (by kernel_rfl) rfl)
    (T := w.heap.size + 1) (by omega) (split_on (n - 1) (by omega) (w.heap.size + 1) t ht W0 (by omega) c1 c2 b3) KS.trans (KS.put (by omega) (by omega) (by omega)) (fun _ => rfl)
    (fun (pre : List Txt) W => (Boxed W w.heap.size 23 (.int .u64 ((partsN (txts pre) : Nat) : Int)) ∧ W0.heap.size ≤ W.heap.size) ∧ Below w.heap.size w W)
    (OwnFrom.and (OwnFrom.and (Own.from (boxed_own _ _ _) _) (fun s A B row hs hg hr => Nat.le_trans hs hg.size)) (ownFrom_below (Nat.le_refl _) (by omega)))
    (fun s A B row hs hg hr => ⟨⟨hs.1.1.kept hg (fun e => by have := hr _ e.symm; omega), Nat.le_trans hs.1.2 hg.size⟩, hs.2.grown hg hs.2.size (fun k e => by have := hr k e; omega)⟩)
    ⟨⟨c0, Nat.le_refl _⟩, hB0⟩
    (fun x => { tmps := #[.string (strB t), undef, .int .u64 0, .bool false, .pointer (some ⟨w.heap.size, 0, none⟩), .string (strB x.1), .string (strB t), .func (.func 56) #[] #[.pointer (some ⟨w.heap.size + 1 + 1, 0, none⟩), .pointer (some ⟨w.heap.size + 1, 0, none⟩), .pointer (some ⟨w.heap.size + 1 + 2, 0, none⟩)], .string (strB x.1), undef, undef, undef, undef, undef, undef, undef, undef, undef], defers := [] }) ?assign ?body ?done
  case assign =>
    intro l x W K hK
    obtain ⟨xt, hxt⟩ : ∃ xt, strB x.1 = xt := ⟨_, rfl⟩
    simp only [hxt] at hK ⊢
    gi_wp2
    exact hK
  case body =>
    rintro l pre x W ⟨⟨e0, hsz2⟩, hB⟩
    have hm0 : Tryd.prog.follows .mixedOrders = true := by kernel_rfl
    have hGW : Gnd W.drew := hG.below hB.drew
    obtain ⟨q, hq⟩ : ∃ q, partsN (txts pre) = q := ⟨_, rfl⟩
    have hq2 : q < 18446744073709551616 := by rw [← hq]; exact parts_lt _
    obtain ⟨v, hv⟩ : ∃ v, readStrN x.1 = v := ⟨_, rfl⟩
    have hv2 : v < 18446744073709551616 := by rw [← hv]; exact readStr_lt _
    obtain ⟨z, hz⟩ : ∃ z, q ||| v = z := ⟨_, rfl⟩
    have hor : bits .or .u64 (q : Int) (v : Int) = (z : Int) := by rw [bits_or_u64_nat q v hq2 hv2, hz]
    have cR := readStr_any x.1 v (by have := x.2; omega) hv W.drew hGW
    have HZ := Lib.hid (show partsN (txts (pre ++ [x])) = z by rw [txts_snoc, parts_snoc, hq, hv, hz])
    rw [hq] at e0
    obtain ⟨xt, hxt⟩ : ∃ xt, strB x.1 = xt := ⟨_, rfl⟩
    rw [hxt] at cR
    simp only [hxt]
    clear hq hv hz hxt hq2 hv2
    have f0 := e0.cell
    have hlt := e0.lt
    have hcell : ∀ w1 : World, Below W.drew.heap.size W.drew w1 → Boxed w1 w.heap.size 23 (.int .u64 q) ∧ w1.cell? ⟨w.heap.size, 0, none⟩ = some (.int .u64 q) ∧ w1.frozen? ⟨w.heap.size, 0, none⟩ = false := fun w1 hb1 => by
      have h : Boxed w1 w.heap.size 23 (.int .u64 q) := (hb1.block w.heap.size hlt).trans e0
      exact ⟨h, h.cell, h.frozen⟩
    have hend : ∀ w1 : World, Below W.drew.heap.size W.drew w1 → (KeepsFrom W0.heap.size W (w1.setCell ⟨w.heap.size, 0, none⟩ (.int .u64 z)) ∧ KS (w.heap.size + 1) (w.heap.size + 1 + 1) (w.heap.size + 1 + 2) W (w1.setCell ⟨w.heap.size, 0, none⟩ (.int .u64 z)) ∧
        ((Boxed (w1.setCell ⟨w.heap.size, 0, none⟩ (.int .u64 z)) w.heap.size 23 (.int .u64 ((partsN (txts (pre ++ [x])) : Nat) : Int)) ∧ W0.heap.size ≤ (w1.setCell ⟨w.heap.size, 0, none⟩ (.int .u64 z)).heap.size) ∧ Below w.heap.size w (w1.setCell ⟨w.heap.size, 0, none⟩ (.int .u64 z)))) := fun w1 hb1 => by
      have hs1 : W.heap.size ≤ w1.heap.size := hb1.size
      have hk : ∀ k, k ≠ w.heap.size → k < W.heap.size → (w1.setCell ⟨w.heap.size, 0, none⟩ (.int .u64 z)).heap[k]? = W.heap[k]? := fun k hne hl => (Below.heap_setCell w1 _ _ k hne).trans (hb1.block k hl)
      have hss : (w1.setCell ⟨w.heap.size, 0, none⟩ (.int .u64 z)).heap.size = w1.heap.size := by simp
      refine ⟨⟨by rw [hss]; exact hs1, fun k o hk0 ho hc => (hk k (by omega) (Array.getElem?_eq_some_iff.1 ho).1).trans ho⟩, ⟨hk _ (by omega) (by omega), hk _ (by omega) (by omega), hk _ (by omega) (by omega)⟩, ⟨?_, by rw [hss]; omega⟩, ?_⟩
      · rw [HZ.out]; exact (hcell w1 hb1).1.set _
      · exact (below_more hB.drew hb1 (Nat.le_refl _)).setCell (p := ⟨w.heap.size, 0, none⟩) (Nat.le_refl _) _
    gi_wp2_with fail
    refine region_any_round hm0 (by rintro ⟨_, _, h⟩; cases h.1) (NoDefer.of rfl) ?_
    refine wpAny_take (i := 1) (v := ?_) rfl (by kernel_rfl) (by kernel_rfl) (by kernel_rfl) (fun _ _ _ h => h) (Or.inl ⟨by rfl, ?v1⟩) ?_
    case v1 => intro w; go_simp; with_reducible rfl
    refine wpAny_ready (rs := [0, 2]) (by kernel_rfl) (by simp) ?_
    refine AllReady.cons rfl (fun K hK => ?_) ?_
    · go_simp
      refine hK _ _ ?_
      clear hK K
      refine wpAny_ready (rs := [2]) (by kernel_rfl) (by simp) ?_
      refine AllReady.cons rfl (fun K hK => ?_) AllReady.nil
      go_simp
      refine cR.mono ?_
      rintro e w1 ⟨rfl, hb1⟩
      obtain ⟨d0, f1, d1⟩ := hcell w1 hb1
      refine hK _ _ ?_
      clear hK K
      refine wpAny_ready (rs := [3]) (by kernel_rfl) (by simp) ?_
      refine AllReady.cons rfl (fun K hK => ?_) AllReady.nil
      go_simp
      refine hK _ _ ?_
      clear hK K
      refine wpAny_ready (rs := [4]) (by kernel_rfl) (by simp) ?_
      refine AllReady.cons rfl (fun K hK => ?_) AllReady.nil
      go_simp
      refine hK _ _ ?_
      clear hK K
      refine wpAny_done (by kernel_rfl) ?_ _
      exact ⟨rfl, hend w1 hb1⟩
    · refine AllReady.cons rfl (fun K hK => ?_) AllReady.nil
      go_simp
      refine cR.mono ?_
      rintro e w1 ⟨rfl, hb1⟩
      obtain ⟨d0, f1, d1⟩ := hcell w1 hb1
      refine hK _ _ ?_
      clear hK K
      refine wpAny_ready (rs := [0]) (by kernel_rfl) (by simp) ?_
      refine AllReady.cons rfl (fun K hK => ?_) AllReady.nil
      go_simp
      refine hK _ _ ?_
      clear hK K
      refine wpAny_ready (rs := [3]) (by kernel_rfl) (by simp) ?_
      refine AllReady.cons rfl (fun K hK => ?_) AllReady.nil
      go_simp
      refine hK _ _ ?_
      clear hK K
      refine wpAny_ready (rs := [4]) (by kernel_rfl) (by simp) ?_
      refine AllReady.cons rfl (fun K hK => ?_) AllReady.nil
      go_simp
      refine hK _ _ ?_
      clear hK K
      refine wpAny_done (by kernel_rfl) ?_ _
      exact ⟨rfl, hend w1 hb1⟩
  case done =>
    rintro D ys W hD hys ⟨⟨e0, _⟩, hB⟩ hK
    have hGW : Gnd W := hG.below hB
    have hpa : partsN (txts ys) = parseN t := by rw [hys]; rfl
    rw [hpa] at e0
    have cS := show_any (parseN t) (parse_lt t) W hGW
    unfold readN at hu
    obtain ⟨s, hs⟩ : ∃ s, parseN t = s := ⟨_, rfl⟩
    rw [hs] at cS hu e0
    have f0 := e0.cell
    by_cases heq : textB s = t
    · rw [if_pos heq] at hu
      obtain ⟨rfl, rfl⟩ := Prod.mk.inj hu
      rw [heq] at cS
      generalize strB t = tx at *
      clear hpa hs heq hu
      gi_wp2_with fail
      refine ⟨trivial, (callsIn_wide.2 cS).mono ?_⟩
      rintro e w2 ⟨rfl, hb2⟩
      have f2 : w2.cell? ⟨w.heap.size, 0, none⟩ = some (.int .u64 s) := (hb2.cell (p := ⟨w.heap.size, 0, none⟩) e0.lt).trans f0
      have hK2 : w2.heap[D]? = some (.deferred (some [])) := (hb2.block D (Array.getElem?_eq_some_iff.1 hK).1).trans hK
      gi_wp2_with fail
      refine ⟨by simp, .inl ⟨_, _, rfl, run_takeDeferred hK2, ?_⟩⟩
      exact ⟨_, results_tmp2 rfl _ _ _, rfl, (below_more hB hb2 (Nat.le_refl _)).trans (belowK_b (w := w) (Nat.le_refl _) w2 D _ _ (by omega) hK2 rfl rfl)⟩
    · rw [if_neg heq] at hu
      obtain ⟨rfl, rfl⟩ := Prod.mk.inj hu
      have hne : ((strB (textB s)).toList == (strB t).toList) = false := by
        rw [Lib.toList_data, Lib.toList_data]
        simp only [beq_eq_false_iff_ne, ne_eq]
        exact heq
      generalize strB (textB s) = tx at *
      clear hpa hs heq hu
      gi_wp2_with fail
      refine ⟨trivial, (callsIn_wide.2 cS).mono ?_⟩
      rintro e w2 ⟨rfl, hb2⟩
      have hK2 : w2.heap[D]? = some (.deferred (some [])) := (hb2.block D (Array.getElem?_eq_some_iff.1 hK).1).trans hK
      gi_wp2_with fail
      refine ⟨by simp, .inl ⟨_, _, rfl, run_takeDeferred hK2, ?_⟩⟩
      exact ⟨_, results_tmp2 rfl _ _ _, rfl, (below_more hB hb2 (Nat.le_refl _)).trans (belowK_b (w := w) (Nat.le_refl _) w2 D _ _ (by omega) hK2 rfl rfl)⟩
end Go.Proofs.YthmccldkknhejaaDoor

/- set.Show: a set's text. -/
import Derived.Test.YthmccldkknhejaaDoorPg
import Derived.Test.YthmccldkknhejaaDoorRnd
import Derived.Test.YthmccldkknhejaaDoorShelf
namespace Go.Proofs.YthmccldkknhejaaDoor
open Go.RowKit Go.Shelf Go.Deep

attribute [local go_sem] Oper.semAt_some
set_option linter.unusedVariables false

/-- A string of these bytes. -/
def strB (l : List UInt8) : ByteArray := ⟨l.toArray⟩
theorem strB_append (a b : List UInt8) : strB a ++ strB b = strB (a ++ b) := by
  apply ByteArray.ext
  simp [strB]
theorem strB_list (a : List UInt8) : (strB a).data.toList = a := rfl
theorem strB_inj {a b : List UInt8} (h : strB a = strB b) : a = b := by
  have := congrArg (fun x => x.data.toList) h
  simpa [strB] using this
theorem strB_size (a : List UInt8) : (strB a).size = a.length := rfl
theorem digits_dec : ∀ i, i < 64 → Lib.decDigits i = decB i := by decide +kernel
theorem dec_len : ∀ i, i < 64 → (decB i).length ≤ 2 := by decide +kernel
theorem itoa_any (i : Nat) (t : ByteArray) (h : i < 64) (ht : strB (decB i) = t) (w : World) : Calls Tryd.prog 51 #[.int .i64 i] w fun e w' => e = .returned (.string t) ∧ w = w' := by
  have := Tryd.strconv_Itoa_small i (by omega) w
  rw [digits_dec i h] at this
  refine this.mono ?_
  rintro e w' ⟨rfl, rfl⟩
  rw [← ht]
  exact ⟨rfl, rfl⟩

set_option maxRecDepth 100000 in
set_option maxHeartbeats 1000000 in
theorem showStretch_any (f l : Nat) (t : ByteArray) (hf : f < 64) (hl : l < 64) (ht : strB (showR (f, l)) = t) (w : World) : Calls Tryd.prog 40 #[.int .i64 f, .int .i64 l] w fun e w' => e = .returned (.string t) ∧ w = w' := by
  by_cases h : f = l
  · subst h
    have c := itoa_any f t hf (by rw [← ht]; simp [showR])
    clear ht
    go_enter Tryd.func40, Tryd.ntmps40
    go_wp2_with (go_at_call 51; refine (c _).mono ?_; rintro e w' ⟨rfl, rfl⟩)
    go_ret
    simp
  · have h2 : ((f : Int) == (l : Int)) = false := by simp; omega
    have c1 := itoa_any f _ hf rfl
    have c2 := itoa_any l _ hl rfl
    have l1 := dec_len f hf
    have l2 := dec_len l hl
    have e1 : strB (decB f) ++ (⟨#[45]⟩ : ByteArray) = strB (decB f ++ [45]) := strB_append _ [45]
    have e2 : strB (decB f ++ [45]) ++ strB (decB l) = t := by rw [strB_append, ← ht]; simp [showR, h]
    have s1 := strB_size (decB f)
    have s2 := strB_size (decB l)
    have s3 := strB_size (decB f ++ [45])
    rw [List.length_append, List.length_singleton] at s3
    go_enter Tryd.func40, Tryd.ntmps40
    go_wp2_with fail
    refine (c1 _).mono ?_
    rintro e w' ⟨rfl, rfl⟩
    go_wp2_with fail
    refine (c2 _).mono ?_
    rintro e w' ⟨rfl, rfl⟩
    clear ht
    go_wp2_with fail
    go_ret
    exact ⟨rfl, rfl⟩

set_option maxRecDepth 100000 in
theorem info_str : (Tryd.prog.info? 9).map (fun i => (i.zero, i.size, i.bytes)) = some (some (.string ⟨#[]⟩), 1, 16) := by kernel_rfl
/-- The text of the stretch that begins at a category. -/
def pieceL (s c : Nat) : List UInt8 := showR (c, c + Lib.ctz 64 (18446744073709551615 - s / 2 ^ c) - 1)
def pieceV (s c : Nat) : Value := .string (strB (pieceL s c))
theorem piece_len (f l : Nat) (hf : f < 64) (hl : l < 64) : (showR (f, l)).length ≤ 5 := by
  have h1 := dec_len f hf
  have h2 := dec_len l hl
  unfold showR
  simp only
  split
  · omega
  · rw [List.length_append, List.length_cons]; omega
theorem pieces {s : Nat} (hs : s < 18446744073709551616) : ((strs s).map (·.1)).map (pieceL s) = (strs s).map showR := by
  rw [List.map_map]
  refine List.map_congr_left fun p hp => ?_
  obtain ⟨h1, h2⟩ := strs_lt hp
  show showR (p.1, _) = showR p
  rw [many hs hp, show p.1 + (p.2 + 1 - p.1) - 1 = p.2 by omega]

theorem ownsRow_drew {W : World} {base : Nat} {e : TypeId} {size : Nat} {v : Value} {k : Nat} {xs : List Value} (h : W.ownsRow base e size v k xs) : W.drew.ownsRow base e size v k xs := h
theorem cell_one_drew (w : World) (x : Value) (t : TypeId) : ∀ j u, [x][j]? = some u → ((w.alloc (.cells #[x] t)).drew).cell? ((⟨w.heap.size, 0, none⟩ : Addr).add j) = some u := cell_one_new w x t
theorem join_len : ∀ (ps : List (List UInt8)), (∀ p ∈ ps, p.length ≤ 5) → (Lib.join ps [44]).length ≤ 6 * ps.length
  | [], _ => by simp [Lib.join_nil]
  | [p], h => by rw [Lib.join_one]; have := h p (by simp); simp; omega
  | p :: q :: r, h => by
    have ih := join_len (q :: r) (fun x hx => h x (List.mem_cons_of_mem _ hx))
    have hp := h p (by simp)
    have e : Lib.join (p :: q :: r) [44] = p ++ 44 :: Lib.join (q :: r) [44] := by
      rw [Lib.join_cons, Lib.join_cons]; simp [Lib.joinTail]
    rw [e, List.length_append, List.length_cons]
    rw [List.length_cons (a := p)]
    omega
theorem text_len {s : Nat} (hs : s < 18446744073709551616) : (textB s).length ≤ 400 := by
  by_cases h0 : s = 0
  · subst h0; decide
  · rw [text_of h0]
    have h1 := join_len ((strs s).map showR) (fun p hp => by
      obtain ⟨q, hq, rfl⟩ := List.mem_map.1 hp
      obtain ⟨h1, h2⟩ := strs_lt hq
      exact piece_len q.1 q.2 (by omega) h2)
    have h2 : ((strs s).map showR).length ≤ 64 := by
      rw [List.length_map, ← List.length_map (f := (·.1)), ← firsts hs]
      exact cats_length_le _
    omega
theorem own_texts {W : World} {base k : Nat} {v : Value} {xs : List ByteArray} (h : W.ownsRow base 9 1 v k (xs.map Value.string)) (hk : 0 < k) :
    ∃ g cap, v = .slice (some ⟨g, 0, none⟩) k cap ∧ xs.length = k ∧ k ≤ cap ∧ g < W.heap.size ∧ ∀ (j : Nat) x, xs[j]? = some x → W.cell? ⟨g, 0 + j, none⟩ = some (.string x) := by
  have hl : xs.length = k := by have := h.1; simpa using this
  rcases h.2 with ⟨_, h0⟩ | ⟨g, cap, cur, rfl, _, hh, hnc, _⟩
  · omega
  · refine ⟨g, cap, rfl, hl, hnc, (Array.getElem?_eq_some_iff.1 hh).1, fun j x hx => ?_⟩
    have hc := World.ownsRow.cells h (g := g) rfl j (.string x) (by rw [List.getElem?_map, hx]; rfl)
    rw [Go.WideShapes.add_plain] at hc
    exact hc

set_option maxRecDepth 100000 in
set_option maxHeartbeats 1000000 in
theorem show_zero (w : World) : Calls Tryd.prog 24 #[.int .u64 0] w fun e w' => e = .returned (.string (strB noneB)) ∧ Below w.heap.size w w' := by
  go_enter Tryd.func24, Tryd.ntmps24
  go_wp2_with fail
  go_ret
  exact ⟨rfl, (Below.refl _ _).alloc (Nat.le_refl _) _⟩
set_option maxRecDepth 100000 in
set_option maxHeartbeats 1000000 in
theorem show_in (n : Nat) (hn : 4 ≤ n) (s : Nat) (hs : s < 18446744073709551616) (h0 : s ≠ 0) (w : World) (hT : Tab w) (hg : 0 < w.heap.size) :
    CallsIn Fence.wide n Tryd.prog 24 #[.int .u64 s] w fun e w' => e = .returned (.string (strB (textB s))) ∧ Below w.heap.size w w' := by
  have hro : Fence.wide.round = none := rfl
  have hn1 : 1 ≤ n := by omega
  have hz : ((s : Int) == 0) = false := by simp [h0]
  obtain ⟨m, hm⟩ : ∃ m, minus s (s * 2 % 18446744073709551616) = m := ⟨_, rfl⟩
  obtain ⟨d, hd⟩ : ∃ d, s * 2 % 18446744073709551616 = d := ⟨_, rfl⟩
  have hd2 : d < 18446744073709551616 := by omega
  have hm2 : m < 18446744073709551616 := by rw [← hm]; exact minus_lt hs
  have hsh : IntKind.u64.wrap ((s : Int) * 2) = (d : Int) := by rw [IntKind.wrap_u64]; omega
  rw [hd] at hm
  have cMin := minus_any s d m hs hd2 hm
  refine callsIn_of_wp_marks Tryd.func24 rfl trivial ?_ hro
  simp only [Tryd.ntmps24, List.size_toArray, List.length_cons, List.length_nil, Nat.reduceAdd, Nat.reduceSub, Array.replicate_succ, Array.replicate_zero, List.push_toArray, List.append_toArray, List.nil_append, List.cons_append]
  gi_wp2_with fail
  refine ⟨trivial, (callsIn_wide.2 (cMin _)).mono ?_⟩
  rintro e w' ⟨rfl, rfl⟩
  gi_wp2_with fail
  refine ⟨trivial, (each_in (n - 1) m _).mono ?_⟩
  rintro e w' ⟨rfl, rfl⟩
  gi_wp2_with fail
  have b0 := Boxed.new w 23 (.int .u64 s)
  have b1 := Boxed.new (w.alloc (.cells #[.int .u64 s] 23)) 61 (.slice none 0 0)
  have b2 := Boxed.new ((w.alloc (.cells #[.int .u64 s] 23)).alloc (.cells #[.slice none 0 0] 61)) 23 (.int .u64 m)
  simp only [World.size_alloc] at b1 b2
  have c0 := (b0.alloc (.cells #[.slice none 0 0] 61)).alloc (.cells #[.int .u64 m] 23)
  have c1 := b1.alloc (.cells #[.int .u64 m] 23)
  have hB0 : Below w.heap.size w (((w.alloc (.cells #[.int .u64 s] 23)).alloc (.cells #[.slice none 0 0] 61)).alloc (.cells #[.int .u64 m] 23)) := (((Below.refl _ w).alloc (Nat.le_refl _) _).alloc (by simp) _).alloc (by simp; omega) _
  have hsz : (((w.alloc (.cells #[.int .u64 s] 23)).alloc (.cells #[.slice none 0 0] 61)).alloc (.cells #[.int .u64 m] 23)).heap.size = w.heap.size + 3 := by simp
  clear b0 b1
  generalize hW0 : ((w.alloc (.cells #[.int .u64 s] 23)).alloc (.cells #[.slice none 0 0] 61)).alloc (.cells #[.int .u64 m] 23) = W0 at *
  clear hW0
  refine wpIn_rangeFunc_ownG hro hn1 (gf := 49) (lb := #[.pointer (some ⟨w.heap.size + 1 + 1, 0, none⟩)]) rfl trivial (enters_of Tryd.func49 (by kernel_rfl) rfl)
    (each_stops (n - 1) (by omega) (w.heap.size + 1 + 1) w.heap.size m hm2 W0 (by omega) b2.cell (tab_below hT hB0 hg) hg (by omega)) KE.trans (ke_b (by omega) (by omega)) (Below.refl _ _) (fun _ => rfl)
    (fun pre W => ((∃ v, Boxed W (w.heap.size + 1) 61 v ∧ W.ownsRow w.heap.size 9 1 v (pre.map (·.1)).length ((pre.map (·.1)).map (pieceV s)) ∧ True) ∧ Boxed W w.heap.size 23 (.int .u64 s) ∧ Boxed W (w.heap.size + 1 + 1) 23 (.int .u64 m)) ∧ Below w.heap.size w W)
    (fun _ _ _ => False)
    (OwnFrom.and (OwnFrom.and (Own.from (holdsRow_own w.heap.size (w.heap.size + 1) 61 9 1 (fun pre : List (Cat m) => (pre.map (·.1)).length) (fun pre => (pre.map (·.1)).map (pieceV s)) (fun _ _ => True)) _) (OwnFrom.and (Own.from (boxed_own _ _ _) _) (Own.from (boxed_own _ _ _) _))) (ownFrom_below (Nat.le_refl _) (by omega)))
    (fun _ _ _ _ _ hs _ _ => hs)
    ⟨⟨⟨_, c1, World.ownsRow_nil _ _ _ _, trivial⟩, c0, b2⟩, hB0⟩
    (fun x => { tmps := #[.int .u64 s, .pointer (some ⟨w.heap.size, 0, none⟩), .string ⟨#[]⟩, .pointer (some ⟨w.heap.size + 1, 0, none⟩), .int .i64 (x.1 : Int), undef, .int .u64 s, .bool false, .int .u64 s, .int .u64 s, .int .u64 d, .int .u64 m, .func (.func 49) #[] #[.pointer (some ⟨w.heap.size + 1 + 1, 0, none⟩)], .int .i64 (x.1 : Int), undef, undef, undef, undef, undef, undef, undef, undef, undef, undef, undef, undef, undef, undef, undef, undef], defers := [] }) ?assign ?body ?done ?stop
  case assign =>
    intro l x W K hK
    gi_wp2
    exact hK
  case body =>
    rintro l pre x W ⟨⟨⟨v, hv, hrow, _⟩, e0, e2⟩, hB⟩ hlen
    have hm0 : Tryd.prog.follows .mixedOrders = true := by kernel_rfl
    have hd1 : 1 ≤ n - 1 - 1 := by omega
    have hF1 : Fence.wide.fn 39 := trivial
    have hF2 : Fence.wide.fn 40 := trivial
    have hxf : x.1 ∈ (strs s).map (·.1) := by rw [← firsts hs, hd, hm]; exact x.2
    obtain ⟨p, hp, hpx⟩ := List.mem_map.1 hxf
    obtain ⟨hp1, hp2⟩ := strs_lt hp
    have hmany := many hs hp
    rw [hpx] at hmany hp1
    have hTW : Tab W := tab_below hT hB hg
    have hsn : (pre ++ [x]).map (·.1) = pre.map (·.1) ++ [x.1] := by simp
    have HSN := Lib.hid hsn
    clear hsn hxf hp
    have hpl : (pre.map (·.1)).length < 64 := by rw [List.length_map]; exact hlen
    generalize hps : pre.map (·.1) = ps at *
    have HPS := Lib.hid hps
    clear hps
    have hpiece : pieceL s x.1 = showR (x.1, p.2) := by
      unfold pieceL; rw [hmany, show x.1 + (p.2 + 1 - x.1) - 1 = p.2 by omega]
    obtain ⟨xc, hxc⟩ : ∃ xc, x.1 = xc := ⟨_, rfl⟩
    rw [hxc] at hmany hpiece hp1
    simp only [hxc]
    obtain ⟨k, hk⟩ : ∃ k, p.2 + 1 - xc = k := ⟨_, rfl⟩
    obtain ⟨y, hy⟩ : ∃ y, s / 2 ^ xc = y := ⟨_, rfl⟩
    obtain ⟨q, hq⟩ : ∃ q, p.2 = q := ⟨_, rfl⟩
    have hy2 : y < 18446744073709551616 := by rw [← hy]; exact Nat.lt_of_le_of_lt (Nat.div_le_self _ _) hs
    obtain ⟨nb, hnb⟩ : ∃ nb, 18446744073709551615 - y = nb := ⟨_, rfl⟩
    have hnb2 : nb < 18446744073709551616 := by rw [← hnb]; exact Nat.lt_of_le_of_lt (Nat.sub_le _ _) (by decide)
    rw [hy, hnb, hk] at hmany
    have cLow := low_any nb k hnb2 hmany
    rw [hq] at hpiece hp1 hp2 hk
    obtain ⟨t, ht⟩ : ∃ t, strB (showR (xc, q)) = t := ⟨_, rfl⟩
    have cShow := showStretch_any xc q t (Nat.lt_of_le_of_lt hp1 hp2) hp2 ht
    have hPV : pieceV s x.1 = .string t := by rw [hxc]; unfold pieceV; rw [hpiece, ht]
    have HPV := Lib.hid hPV
    have hshr : (s : Int) / 2 ^ xc = (y : Int) := by rw [← hy]; simp
    have hsumI : IntKind.i64.wrap (IntKind.i64.wrap ((xc : Int) + (k : Int)) - 1) = (q : Int) := sum_walk xc k q hp1 hp2 hk
    have hnot := not_walk y nb hy2 hnb
    have hxc64 : xc < 64 := Nat.lt_of_le_of_lt hp1 hp2
    clear hmany hpiece hPV ht hnb hy hk hq hpx hm hd hsh hn hs hlen hnb2 hy2 hp1 hp2 hd2 hm2
    have hvc := hv.cell
    have f0 := e0.cell
    gi_wp2_with fail
    refine (CallsIn.inRound l (callsIn_wide.2 (cLow _ hTW))).mono ?_
    rintro e w' ⟨rfl, rfl⟩
    gi_wp2_with fail
    have hvc2 : (W.alloc (.cells #[.string t] 9)).cell? ⟨w.heap.size + 1, 0, none⟩ = some v := (hv.alloc _).cell
    obtain ⟨i0, hi, hz0, hz1, hz2⟩ := info_parts info_str
    have hend : ∀ (w1 : World) (g' cap' : Nat), Boxed (w1.setCell ⟨w.heap.size + 1, 0, none⟩ (.slice (some ⟨g', 0, none⟩) (ps.length + 1) cap')) (w.heap.size + 1) 61 (.slice (some ⟨g', 0, none⟩) (ps.length + 1) cap') →
        (w1.setCell ⟨w.heap.size + 1, 0, none⟩ (.slice (some ⟨g', 0, none⟩) (ps.length + 1) cap')).ownsRow w.heap.size 9 1 (.slice (some ⟨g', 0, none⟩) (ps.length + 1) cap') (ps.length + 1) (ps.map (pieceV s) ++ [.string t]) →
        KeepsOthers W.drew (w1.setCell ⟨w.heap.size + 1, 0, none⟩ (.slice (some ⟨g', 0, none⟩) (ps.length + 1) cap')) → Below w.heap.size W.drew (w1.setCell ⟨w.heap.size + 1, 0, none⟩ (.slice (some ⟨g', 0, none⟩) (ps.length + 1) cap')) →
        Boxed (w1.setCell ⟨w.heap.size + 1, 0, none⟩ (.slice (some ⟨g', 0, none⟩) (ps.length + 1) cap')) w.heap.size 23 (.int .u64 s) → Boxed (w1.setCell ⟨w.heap.size + 1, 0, none⟩ (.slice (some ⟨g', 0, none⟩) (ps.length + 1) cap')) (w.heap.size + 1 + 1) 23 (.int .u64 m) →
        KeepsFrom W0.heap.size W (w1.setCell ⟨w.heap.size + 1, 0, none⟩ (.slice (some ⟨g', 0, none⟩) (ps.length + 1) cap')) ∧ KE w.heap.size (w.heap.size + 1 + 1) W (w1.setCell ⟨w.heap.size + 1, 0, none⟩ (.slice (some ⟨g', 0, none⟩) (ps.length + 1) cap')) ∧
        ((∃ v, Boxed (w1.setCell ⟨w.heap.size + 1, 0, none⟩ (.slice (some ⟨g', 0, none⟩) (ps.length + 1) cap')) (w.heap.size + 1) 61 v ∧ (w1.setCell ⟨w.heap.size + 1, 0, none⟩ (.slice (some ⟨g', 0, none⟩) (ps.length + 1) cap')).ownsRow w.heap.size 9 1 v ((pre ++ [x]).map (·.1)).length (((pre ++ [x]).map (·.1)).map (pieceV s)) ∧ True) ∧
          Boxed (w1.setCell ⟨w.heap.size + 1, 0, none⟩ (.slice (some ⟨g', 0, none⟩) (ps.length + 1) cap')) w.heap.size 23 (.int .u64 s) ∧ Boxed (w1.setCell ⟨w.heap.size + 1, 0, none⟩ (.slice (some ⟨g', 0, none⟩) (ps.length + 1) cap')) (w.heap.size + 1 + 1) 23 (.int .u64 m)) ∧
          Below w.heap.size w (w1.setCell ⟨w.heap.size + 1, 0, none⟩ (.slice (some ⟨g', 0, none⟩) (ps.length + 1) cap')) := by
      intro w1 g' cap' hv2 hr2 hk2 hb2 hs0 hs2
      generalize w1.setCell ⟨w.heap.size + 1, 0, none⟩ (.slice (some ⟨g', 0, none⟩) (ps.length + 1) cap') = W2 at *
      have hb3 : Below w.heap.size W W2 := ((Below.refl w.heap.size W).drew).trans hb2
      refine ⟨((KeepsOthers.drew W).trans hk2).from _, ⟨hb3, hs2.trans e2.symm⟩, ⟨⟨_, hv2, ?_, trivial⟩, hs0, hs2⟩, hB.trans hb3⟩
      rw [HSN.out, List.length_append, List.map_append, List.map_cons, List.map_nil, HPV.out]
      exact hr2
    refine region_any_round hm0 (by rintro ⟨_, _, h⟩; exact h) (NoDefer.of rfl) ?_
    refine wpAny_take (i := 1) (v := ?_) rfl (by kernel_rfl) (by kernel_rfl) (by kernel_rfl) (fun _ _ _ h => h) (Or.inl ⟨by rfl, ?v1⟩) ?_
    case v1 => intro w; go_simp; with_reducible rfl
    refine wpAny_take (i := 2) (v := ?_) rfl (by kernel_rfl) (by kernel_rfl) (by kernel_rfl) (fun _ _ _ h => h) (Or.inl ⟨by rfl, ?v2⟩) ?_
    case v2 => intro w; go_simp; with_reducible rfl
    refine wpAny_take (i := 3) (v := ?_) rfl (by kernel_rfl) (by kernel_rfl) (by kernel_rfl) (fun _ _ _ h => h) (Or.inl ⟨by rfl, ?v3⟩) ?_
    case v3 => intro w; go_simp; with_reducible rfl
    refine wpAny_take (i := 4) (v := ?_) rfl (by kernel_rfl) (by kernel_rfl) (by kernel_rfl) (fun _ _ _ h => h) (Or.inl ⟨by rfl, ?v4⟩) ?_
    case v4 => intro w; go_simp; with_reducible rfl
    refine wpAny_take (i := 5) (v := ?_) rfl (by kernel_rfl) (by kernel_rfl) (by kernel_rfl) (fun _ _ _ h => h) (Or.inl ⟨by rfl, ?v5⟩) ?_
    case v5 => intro w; go_simp; with_reducible rfl
    refine wpAny_ready (rs := [0, 6]) (by kernel_rfl) (by simp) ?_
    refine AllReady.cons rfl (fun K hK => ?_) ?_
    · go_simp
      refine hK _ _ ?_
      clear hK K
      refine wpAny_ready (rs := [6]) (by kernel_rfl) (by simp) ?_
      refine AllReady.cons rfl (fun K hK => ?_) AllReady.nil
      go_simp
      refine (cShow _).mono ?_
      rintro e w' ⟨rfl, rfl⟩
      refine hK _ _ ?_
      clear hK K
      refine wpAny_ready (rs := [7]) (by kernel_rfl) (by simp) ?_
      refine AllReady.cons rfl (fun K hK => ?_) AllReady.nil
      go_simp
      refine hK _ _ ?_
      clear hK K
      refine wpAny_ready (rs := [8]) (by kernel_rfl) (by simp) ?_
      refine AllReady.cons rfl (fun K hK => ?_) AllReady.nil
      rw [if_pos (by rfl)]
      refine wp_append_own _ (.tmp 19) (.tmp 26) 61 rfl w.heap.size 9 i0 (.string ⟨#[]⟩) 1 16 Tryd.underlying61 hi hz0 hz1 hz2 rfl (by decide) v ps.length (ps.map (pieceV s)) rfl (ownsRow_drew (hrow.alloc _)) ⟨W.heap.size, 0, none⟩ 1 1 [.string t] rfl rfl (cell_one_drew _ _ _) (by simp [Value.oneCell']) (by simp only [maxLen]; omega) (by omega) (by show w.heap.size ≤ (W.alloc _).heap.size; have := hB.size; simp; omega) ?_
      intro v' w1 hown' hgrow _
      obtain ⟨g', cap', rfl⟩ := ownsRow_succ hown'
      obtain ⟨hv1, hv2, hr2, hk2, hb2⟩ := Boxed.appended (W := W.drew) hv (by decide) (ownsRow_drew hrow) hB.size (by omega) hown' hgrow
      have hs0 := Boxed.kept (W := (W.drew).alloc (.cells #[.string t] 9)) (Boxed.alloc (W := W.drew) e0 _) hgrow (Boxed.not_row e0 (by decide) hrow)
      have hs2 := Boxed.kept (W := (W.drew).alloc (.cells #[.string t] 9)) (Boxed.alloc (W := W.drew) e2 _) hgrow (Boxed.not_row e2 (by decide) hrow)
      have hc1 := hv1.cell
      have hf1 := hv1.frozen
      refine hK _ _ ?_
      clear hK K
      refine wpAny_ready (rs := [9]) (by kernel_rfl) (by simp) ?_
      refine AllReady.cons rfl (fun K hK => ?_) AllReady.nil
      go_simp
      refine hK _ _ ?_
      clear hK K
      refine wpAny_done (by kernel_rfl) ?_ _
      exact hend w1 g' cap' hv2 hr2 hk2 hb2 (hs0.other (B' := w.heap.size + 1) (by omega) _) (hs2.other (B' := w.heap.size + 1) (by omega) _)
    · refine AllReady.cons rfl (fun K hK => ?_) AllReady.nil
      go_simp
      refine (cShow _).mono ?_
      rintro e w' ⟨rfl, rfl⟩
      refine hK _ _ ?_
      clear hK K
      refine wpAny_ready (rs := [0, 7]) (by kernel_rfl) (by simp) ?_
      refine AllReady.cons rfl (fun K hK => ?_) ?_
      · go_simp
        refine hK _ _ ?_
        clear hK K
        refine wpAny_ready (rs := [7]) (by kernel_rfl) (by simp) ?_
        refine AllReady.cons rfl (fun K hK => ?_) AllReady.nil
        go_simp
        refine hK _ _ ?_
        clear hK K
        refine wpAny_ready (rs := [8]) (by kernel_rfl) (by simp) ?_
        refine AllReady.cons rfl (fun K hK => ?_) AllReady.nil
        rw [if_pos (by rfl)]
        refine wp_append_own _ (.tmp 19) (.tmp 26) 61 rfl w.heap.size 9 i0 (.string ⟨#[]⟩) 1 16 Tryd.underlying61 hi hz0 hz1 hz2 rfl (by decide) v ps.length (ps.map (pieceV s)) rfl (ownsRow_drew (hrow.alloc _)) ⟨W.heap.size, 0, none⟩ 1 1 [.string t] rfl rfl (cell_one_drew _ _ _) (by simp [Value.oneCell']) (by simp only [maxLen]; omega) (by omega) (by show w.heap.size ≤ (W.alloc _).heap.size; have := hB.size; simp; omega) ?_
        intro v' w1 hown' hgrow _
        obtain ⟨g', cap', rfl⟩ := ownsRow_succ hown'
        obtain ⟨hv1, hv2, hr2, hk2, hb2⟩ := Boxed.appended (W := W.drew) hv (by decide) (ownsRow_drew hrow) hB.size (by omega) hown' hgrow
        have hs0 := Boxed.kept (W := (W.drew).alloc (.cells #[.string t] 9)) (Boxed.alloc (W := W.drew) e0 _) hgrow (Boxed.not_row e0 (by decide) hrow)
        have hs2 := Boxed.kept (W := (W.drew).alloc (.cells #[.string t] 9)) (Boxed.alloc (W := W.drew) e2 _) hgrow (Boxed.not_row e2 (by decide) hrow)
        have hc1 := hv1.cell
        have hf1 := hv1.frozen
        refine hK _ _ ?_
        clear hK K
        refine wpAny_ready (rs := [9]) (by kernel_rfl) (by simp) ?_
        refine AllReady.cons rfl (fun K hK => ?_) AllReady.nil
        go_simp
        refine hK _ _ ?_
        clear hK K
        refine wpAny_done (by kernel_rfl) ?_ _
        exact hend w1 g' cap' hv2 hr2 hk2 hb2 (hs0.other (B' := w.heap.size + 1) (by omega) _) (hs2.other (B' := w.heap.size + 1) (by omega) _)
      · refine AllReady.cons rfl (fun K hK => ?_) AllReady.nil
        go_simp
        refine hK _ _ ?_
        clear hK K
        refine wpAny_ready (rs := [0]) (by kernel_rfl) (by simp) ?_
        refine AllReady.cons rfl (fun K hK => ?_) AllReady.nil
        go_simp
        refine hK _ _ ?_
        clear hK K
        refine wpAny_ready (rs := [8]) (by kernel_rfl) (by simp) ?_
        refine AllReady.cons rfl (fun K hK => ?_) AllReady.nil
        rw [if_pos (by rfl)]
        refine wp_append_own _ (.tmp 19) (.tmp 26) 61 rfl w.heap.size 9 i0 (.string ⟨#[]⟩) 1 16 Tryd.underlying61 hi hz0 hz1 hz2 rfl (by decide) v ps.length (ps.map (pieceV s)) rfl (ownsRow_drew (hrow.alloc _)) ⟨W.heap.size, 0, none⟩ 1 1 [.string t] rfl rfl (cell_one_drew _ _ _) (by simp [Value.oneCell']) (by simp only [maxLen]; omega) (by omega) (by show w.heap.size ≤ (W.alloc _).heap.size; have := hB.size; simp; omega) ?_
        intro v' w1 hown' hgrow _
        obtain ⟨g', cap', rfl⟩ := ownsRow_succ hown'
        obtain ⟨hv1, hv2, hr2, hk2, hb2⟩ := Boxed.appended (W := W.drew) hv (by decide) (ownsRow_drew hrow) hB.size (by omega) hown' hgrow
        have hs0 := Boxed.kept (W := (W.drew).alloc (.cells #[.string t] 9)) (Boxed.alloc (W := W.drew) e0 _) hgrow (Boxed.not_row e0 (by decide) hrow)
        have hs2 := Boxed.kept (W := (W.drew).alloc (.cells #[.string t] 9)) (Boxed.alloc (W := W.drew) e2 _) hgrow (Boxed.not_row e2 (by decide) hrow)
        have hc1 := hv1.cell
        have hf1 := hv1.frozen
        refine hK _ _ ?_
        clear hK K
        refine wpAny_ready (rs := [9]) (by kernel_rfl) (by simp) ?_
        refine AllReady.cons rfl (fun K hK => ?_) AllReady.nil
        go_simp
        refine hK _ _ ?_
        clear hK K
        refine wpAny_done (by kernel_rfl) ?_ _
        exact hend w1 g' cap' hv2 hr2 hk2 hb2 (hs0.other (B' := w.heap.size + 1) (by omega) _) (hs2.other (B' := w.heap.size + 1) (by omega) _)
  case done =>
    rintro D ys W hD hys ⟨⟨⟨v, hv, hrow, _⟩, hs1⟩, hB⟩ hK
    rw [hys] at hrow
    have hvc := hv.cell
    have hfs : cats m = (strs s).map (·.1) := by rw [← hm, ← hd]; exact firsts hs
    have hpos : 0 < (cats m).length := by
      rw [hfs, List.length_map]
      exact List.length_pos_iff.2 (fun e => h0 ((strs_nil hs).1 e))
    have hxs : (cats m).map (pieceV s) = ((cats m).map fun c => strB (pieceL s c)).map Value.string := by rw [List.map_map]; rfl
    rw [hxs] at hrow
    obtain ⟨g, cap, rfl, hxl, hcap, hgl, hcells⟩ := own_texts hrow hpos
    have htx : Lib.join ((((cats m).map fun c => strB (pieceL s c))).map (·.data.toList)) ((⟨#[44]⟩ : ByteArray).data.toList) = textB s := by
      rw [List.map_map, text_of h0, ← pieces hs, hfs]
      rfl
    have cJ := Tryd.strings_Join g 0 cap ((cats m).map fun c => strB (pieceL s c)) ⟨#[44]⟩ W hcells hgl (by rw [hxl]; have := cats_length_le m; omega) (by rw [hxl]; exact hcap) (by rw [htx]; have := text_len hs; omega)
    rw [htx, hxl] at cJ
    clear htx hcells hxl hxs hrow hfs
    gi_wp2_with fail
    refine ⟨trivial, (callsIn_wide.2 cJ).mono ?_⟩
    rintro e w2 ⟨rfl, hb2⟩
    gi_wp2_with fail
    have hK2 : w2.heap[D]? = some (.deferred (some [])) := (hb2.block D (Array.getElem?_eq_some_iff.1 hK).1).trans hK
    refine ⟨by simp, .inl ⟨_, _, rfl, run_takeDeferred hK2, ?_⟩⟩
    exact ⟨_, results_tmp rfl _ _ _, rfl, (below_more hB hb2 (Nat.le_refl _)).trans (belowK_b (w := w) (Nat.le_refl _) w2 D _ _ (by omega) hK2 rfl rfl)⟩
  case stop =>
    rintro D c pre W _ _ h _
    exact h.elim
end Go.Proofs.YthmccldkknhejaaDoor

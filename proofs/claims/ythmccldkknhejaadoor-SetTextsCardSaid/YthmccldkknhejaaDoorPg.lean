/- set.List and the pool's least ones: loops over set.each. -/
import Derived.Test.YthmccldkknhejaaDoorPe
import Derived.Test.YthmccldkknhejaaDoorPf
namespace Go.Proofs.YthmccldkknhejaaDoor
open Go.RowKit Go.Shelf Go.Deep

attribute [local go_sem] Oper.semAt_some
set_option linter.unusedVariables false

set_option maxRecDepth 100000 in
theorem infoInt : (Tryd.prog.info? 3).map (fun i => (i.zero, i.size, i.bytes)) = some (some (.int .i64 0), 1, 8) := by kernel_rfl
/-- New numbers of one's own. -/
def natV (c : Nat) : Value := .int .i64 (c : Int)
def OwnsI (B : Nat) (w : World) (v : Value) (zs : List Nat) : Prop := w.ownsRow B 3 1 v zs.length (zs.map natV)
def GivesI (zs : List Nat) (w : World) (e : Ending) (w' : World) : Prop := ∃ v, e = .returned v ∧ OwnsI w.heap.size w' v zs ∧ Below w.heap.size w w'

set_option maxRecDepth 100000 in
set_option maxHeartbeats 2000000 in
theorem list_in (n : Nat) (hn : 4 ≤ n) (s : Nat) (hs : s < 18446744073709551616) (w : World) (hT : Tab w) (hg : 0 < w.heap.size) :
    CallsIn Fence.wide n Tryd.prog 16 #[.int .u64 s] w (GivesI (cats s) w) := by
  have hro : Fence.wide.round = none := rfl
  have hn1 : 1 ≤ n := by omega
  obtain ⟨i0, hi, hz0, hz1, hz2⟩ := info_parts infoInt
  refine callsIn_of_wp_marks Tryd.func16 rfl trivial ?_ hro
  simp only [Tryd.ntmps16, List.size_toArray, List.length_cons, List.length_nil, Nat.reduceAdd, Nat.reduceSub, Array.replicate_succ, Array.replicate_zero, List.push_toArray, List.append_toArray, List.nil_append, List.cons_append]
  gi_wp2_with fail
  refine ⟨trivial, (each_in (n - 1) s _).mono ?_⟩
  rintro e w' ⟨rfl, rfl⟩
  gi_wp2_with fail
  have b0 := Boxed.new w 22 (.slice none 0 0)
  have b1 := Boxed.new (w.alloc (.cells #[.slice none 0 0] 22)) 23 (.int .u64 s)
  rw [World.size_alloc] at b1
  have c0 := b0.alloc (.cells #[.int .u64 s] 23)
  have hB0 : Below w.heap.size w ((w.alloc (.cells #[.slice none 0 0] 22)).alloc (.cells #[.int .u64 s] 23)) := ((Below.refl _ w).alloc (Nat.le_refl _) _).alloc (by simp) _
  have hsz : ((w.alloc (.cells #[.slice none 0 0] 22)).alloc (.cells #[.int .u64 s] 23)).heap.size = w.heap.size + 2 := by simp
  clear b0
  generalize hW0 : (w.alloc (.cells #[.slice none 0 0] 22)).alloc (.cells #[.int .u64 s] 23) = W0 at *
  clear hW0
  refine wpIn_rangeFunc_ownG hro hn1 (gf := 49) (lb := #[.pointer (some ⟨w.heap.size + 1, 0, none⟩)]) rfl trivial (enters_of Tryd.func49 (by kernel_rfl) rfl)
    (each_stops (n - 1) (by omega) (w.heap.size + 1) w.heap.size s hs W0 (by omega) b1.cell (tab_below hT hB0 hg) hg (by omega)) KE.trans (ke_b (by omega) (by omega)) (Below.refl _ _) (fun _ => rfl)
    (fun pre W => ((∃ v, Boxed W w.heap.size 22 v ∧ W.ownsRow w.heap.size 3 1 v (pre.map (·.1)).length ((pre.map (·.1)).map natV) ∧ True) ∧ Boxed W (w.heap.size + 1) 23 (.int .u64 s)) ∧ Below w.heap.size w W)
    (fun _ _ _ => False)
    (OwnFrom.and (OwnFrom.and (Own.from (holdsRow_own w.heap.size w.heap.size 22 3 1 (fun pre : List (Cat s) => (pre.map (·.1)).length) (fun pre => (pre.map (·.1)).map natV) (fun _ _ => True)) _) (Own.from (boxed_own _ _ _) _)) (ownFrom_below (Nat.le_refl _) (by omega)))
    (fun _ _ _ _ _ hs _ _ => hs)
    ⟨⟨⟨_, c0, World.ownsRow_nil _ _ _ _, trivial⟩, b1⟩, hB0⟩
    (fun x => { tmps := #[.int .u64 s, undef, .slice none 0 0, .pointer (some ⟨w.heap.size, 0, none⟩), .int .i64 (x.1 : Int), .int .u64 s, .func (.func 49) #[] #[.pointer (some ⟨w.heap.size + 1, 0, none⟩)], .int .i64 (x.1 : Int), undef, undef, undef, undef, undef], defers := [] }) ?assign ?body ?done ?stop
  case assign =>
    intro l x W K hK
    gi_wp2
    exact hK
  case body =>
    rintro l pre x W ⟨⟨⟨v, hv, hrow, _⟩, hs1⟩, hB⟩ hlen
    have hvc := hv.cell
    have hpl : (pre.map (·.1)).length < 64 := by rw [List.length_map]; exact hlen
    have hsn : (pre ++ [x]).map (·.1) = pre.map (·.1) ++ [x.1] := by simp
    have HSN := Lib.hid hsn
    clear hsn
    generalize hps : pre.map (·.1) = ps at *
    have HPS := Lib.hid hps
    clear hps
    gi_wp2_with (gi_at_builtin; refine wpListIn_append_own _ rfl _ _ 22 rfl w.heap.size 3 i0 (.int .i64 0) 1 8 Tryd.underlying22 hi hz0 hz1 hz2 rfl (by decide) _ _ _ rfl (hrow.alloc _) ⟨W.heap.size, 0, none⟩ 1 1 [natV x.1] rfl rfl (cell_one_new _ _ _) (by simp [natV, Value.oneCell']) (by simp only [maxLen]; omega) (by omega) (by have := hB.size; simp; omega) ?_; intro v' w1 hown' hgrow _; obtain ⟨g', cap', rfl⟩ := ownsRow_succ hown'; obtain ⟨hv1, hv2, hr2, hk2, hb2⟩ := hv.appended (by decide) hrow hB.size (Nat.le_refl _) hown' hgrow; have hs2 := (hs1.alloc _).kept hgrow (hs1.not_row (by decide) hrow); have hc1 := hv1.cell; have hf1 := hv1.frozen)
    have hs3 := hs2.other (B' := w.heap.size) (by omega) (.slice (some ⟨g', 0, none⟩) (ps.length + 1) cap')
    refine ⟨hk2.from _, ⟨hb2, hs3.trans hs1.symm⟩, ⟨⟨_, hv2, ?_, trivial⟩, hs3⟩, hB.trans hb2⟩
    rw [HSN.out, List.length_append, List.map_append]
    exact hr2
  case done =>
    rintro D ys W hD hys ⟨⟨⟨v, hv, hrow, _⟩, hs1⟩, hB⟩ hK
    rw [hys] at hrow
    have hvc := hv.cell
    gi_wp2_with fail
    refine ⟨by simp, .inl ⟨_, _, rfl, run_takeDeferred hK, ?_⟩⟩
    exact ⟨_, results_tmp rfl _ _ _, ⟨v, rfl, ownsRow_putObj hrow _ hK rfl, hB.trans (belowK_b (w := w) (Nat.le_refl _) W D _ _ (by omega) hK rfl rfl)⟩⟩
  case stop =>
    rintro D c pre W _ _ h _
    exact h.elim

/-- A set's k least categories. -/
def leastN (s k : Nat) : Nat := setOf ((cats s).take k)
theorem least_lt (s k : Nat) : leastN s k < 18446744073709551616 := setOf_lt _ (fun c hc => cats_lt (List.mem_of_mem_take hc))
theorem pc_pre (s k : Nat) (hk : k ≤ (cats s).length) : pc (setOf ((cats s).take k)) = k := by
  have hr : ((cats s).take k).Pairwise (· < ·) := (cats_rising s).sublist (List.take_sublist _ _)
  have hl : ∀ i ∈ (cats s).take k, i < 64 := fun i hi => cats_lt (List.mem_of_mem_take hi)
  rw [pc_cats (setOf_lt _ hl), cats_setOf hr hl, List.length_take]
  omega
/-- No proper part of the front has k bits. -/
def NoK (k : Nat) (ps : List Nat) : Prop := ∀ j, j < ps.length → pc (setOf (ps.take j)) ≠ k
theorem noK_snoc {k : Nat} {ps : List Nat} (c : Nat) (h : NoK k ps) (hp : pc (setOf ps) ≠ k) : NoK k (ps ++ [c]) := by
  intro j hj
  rw [List.length_append, List.length_singleton] at hj
  by_cases he : j = ps.length
  · subst he; rw [List.take_left]; exact hp
  · rw [List.take_append_of_le_length (by omega)]
    exact h j (by omega)
theorem noK_all {s k : Nat} (hs : s < 18446744073709551616) (hk : k ≤ (cats s).length) (h : NoK k (cats s)) : setOf (cats s) = leastN s k := by
  have : k = (cats s).length := by
    refine Nat.le_antisymm hk (Nat.le_of_not_lt fun hlt => ?_)
    exact h k hlt (pc_pre s k hk)
  unfold leastN
  rw [this, List.take_length]
theorem noK_stop {s k m : Nat} (hk : k ≤ (cats s).length) {ps : List Nat} {c : Nat} (hp : ps ++ [c] = preN s m) (h : pc (setOf ps) = k) : setOf ps = leastN s k := by
  have e : ps = (cats s).take ps.length := by
    have h1 : (ps ++ [c]).take ps.length = ps := List.take_left
    rw [hp] at h1
    unfold preN at h1
    rw [List.take_take] at h1
    have h2 := congrArg List.length hp
    unfold preN at h2
    rw [List.length_append, List.length_singleton, List.length_take] at h2
    rw [show min ps.length m = ps.length by omega] at h1
    exact h1.symm
  have hle : ps.length ≤ (cats s).length := by
    have := congrArg List.length e
    rw [List.length_take] at this; omega
  have h3 := pc_pre s ps.length hle
  rw [← e, h] at h3
  unfold leastN
  rw [h3, ← e]

set_option maxRecDepth 100000 in
set_option maxHeartbeats 2000000 in
theorem least_in (n : Nat) (hn : 4 ≤ n) (s k u : Nat) (hs : s < 18446744073709551616) (hk : k ≤ (cats s).length) (hu : leastN s k = u) (w : World) (hT : Tab w) (hg : 0 < w.heap.size) :
    CallsIn Fence.wide n Tryd.prog 44 #[.int .u64 s, .int .i64 k] w fun e w' => e = .returned (.int .u64 u) ∧ Below w.heap.size w w' := by
  have hro : Fence.wide.round = none := rfl
  have hn1 : 1 ≤ n := by omega
  have HU := Lib.hid hu
  have HK := Lib.hid hk
  clear hu hk
  refine callsIn_of_wp_marks Tryd.func44 rfl trivial ?_ hro
  simp only [Tryd.ntmps44, List.size_toArray, List.length_cons, List.length_nil, Nat.reduceAdd, Nat.reduceSub, Array.replicate_succ, Array.replicate_zero, List.push_toArray, List.append_toArray, List.nil_append, List.cons_append]
  gi_wp2_with fail
  refine ⟨trivial, (each_in (n - 1) s _).mono ?_⟩
  rintro e w' ⟨rfl, rfl⟩
  gi_wp2_with fail
  have b0 := Boxed.new w 3 (.int .i64 k)
  have b1 := Boxed.new (w.alloc (.cells #[.int .i64 k] 3)) 23 (.int .u64 0)
  have b2 := Boxed.new ((w.alloc (.cells #[.int .i64 k] 3)).alloc (.cells #[.int .u64 0] 23)) 23 (.int .u64 s)
  simp only [World.size_alloc] at b1 b2
  have c0 := (b0.alloc (.cells #[.int .u64 0] 23)).alloc (.cells #[.int .u64 s] 23)
  have c1 := b1.alloc (.cells #[.int .u64 s] 23)
  have hB0 : Below w.heap.size w (((w.alloc (.cells #[.int .i64 k] 3)).alloc (.cells #[.int .u64 0] 23)).alloc (.cells #[.int .u64 s] 23)) := (((Below.refl _ w).alloc (Nat.le_refl _) _).alloc (by simp) _).alloc (by simp; omega) _
  have hsz : (((w.alloc (.cells #[.int .i64 k] 3)).alloc (.cells #[.int .u64 0] 23)).alloc (.cells #[.int .u64 s] 23)).heap.size = w.heap.size + 3 := by simp
  clear b0 b1
  generalize hW0 : ((w.alloc (.cells #[.int .i64 k] 3)).alloc (.cells #[.int .u64 0] 23)).alloc (.cells #[.int .u64 s] 23) = W0 at *
  clear hW0
  refine wpIn_rangeFunc_ownG hro hn1 (gf := 49) (lb := #[.pointer (some ⟨w.heap.size + 1 + 1, 0, none⟩)]) rfl trivial (enters_of Tryd.func49 (by kernel_rfl) rfl)
    (each_stops (n - 1) (by omega) (w.heap.size + 1 + 1) w.heap.size s hs W0 (by omega) b2.cell (tab_below hT hB0 hg) hg (by omega)) KE.trans (ke_b (by omega) (by omega)) (Below.refl _ _) (fun _ => rfl)
    (fun pre W => (Boxed W w.heap.size 3 (.int .i64 k) ∧ Boxed W (w.heap.size + 1) 23 (.int .u64 ((setOf (pre.map (·.1)) : Nat) : Int)) ∧ NoK k (pre.map (·.1))) ∧ Below w.heap.size w W)
    (fun c pre W => (c = .exit 0 ∧ ∃ ps x, pre.map (·.1) = ps ++ [x] ∧ Boxed W (w.heap.size + 1) 23 (.int .u64 ((setOf ps : Nat) : Int)) ∧ pc (setOf ps) = k) ∧ Below w.heap.size w W)
    (OwnFrom.and (OwnFrom.and (Own.from (boxed_own _ _ _) _) (OwnFrom.and (Own.from (boxed_own _ _ _) _) (ownFrom_pure _ _))) (ownFrom_below (Nat.le_refl _) (by omega)))
    (fun c s A B row hs hg hr => by
      obtain ⟨⟨rfl, ps, x, h1, h2, h3⟩, h4⟩ := hs
      exact ⟨⟨rfl, ps, x, h1, (Own.from (boxed_own (β := Unit) (w.heap.size + 1) 23 (fun _ => .int .u64 ((setOf ps : Nat) : Int))) _) () A B row h2 hg hr, h3⟩, (ownFrom_below (β := Unit) (Nat.le_refl _) (by omega)) () A B row h4 hg hr⟩)
    ⟨⟨c0, c1, fun j hj => by simp at hj⟩, hB0⟩
    (fun x => { tmps := #[.int .u64 s, .int .i64 k, undef, .pointer (some ⟨w.heap.size, 0, none⟩), .int .u64 0, .pointer (some ⟨w.heap.size + 1, 0, none⟩), .int .i64 (x.1 : Int), .int .u64 s, .func (.func 49) #[] #[.pointer (some ⟨w.heap.size + 1 + 1, 0, none⟩)], .int .i64 (x.1 : Int), undef, undef, undef, undef, undef, undef, undef, undef, undef], defers := [] }) ?assign ?body ?done ?stop
  case assign =>
    intro l x W K hK
    gi_wp2
    exact hK
  case body =>
    rintro l pre x W ⟨⟨e0, e1, hno⟩, hB⟩ hlen
    have hm : Tryd.prog.follows .mixedOrders = true := by kernel_rfl
    have hd : 1 ≤ n - 1 - 1 := by omega
    have hF1 : Fence.wide.fn 43 := trivial
    have hF2 : Fence.wide.fn 33 := trivial
    have hsn : (pre ++ [x]).map (·.1) = pre.map (·.1) ++ [x.1] := by simp
    have HSN := Lib.hid hsn
    clear hsn
    have hps64 : ∀ c ∈ pre.map (·.1), c < 64 := fun c hc => by obtain ⟨y, _, rfl⟩ := List.mem_map.1 hc; exact cats_lt y.2
    generalize hps : pre.map (·.1) = ps at *
    have hslt := setOf_lt ps hps64
    have HNO := Lib.hid hno
    clear hno hps64
    obtain ⟨q, hq⟩ : ∃ q, setOf ps = q := ⟨_, rfl⟩
    rw [hq] at e1 hslt
    have hxl := cats_lt x.2
    obtain ⟨xc, hxc⟩ : ∃ xc, x.1 = xc := ⟨_, rfl⟩
    rw [hxc] at hxl
    simp only [hxc]
    obtain ⟨v, hv⟩ : ∃ v, 2 ^ xc = v := ⟨_, rfl⟩
    have hv2 : v < 18446744073709551616 := by rw [← hv]; exact one_lt hxl
    obtain ⟨z, hz⟩ : ∃ z, q ||| v = z := ⟨_, rfl⟩
    have cOnly := only_any xc v hxl hv
    have cCount := fun W => count_any q hslt W
    obtain ⟨p, hp⟩ : ∃ p, pc q = p := ⟨_, rfl⟩
    rw [hp] at cCount
    have hor : bits .or .u64 (q : Int) (v : Int) = (z : Int) := by rw [bits_or_u64_nat q v hslt hv2, hz]
    have HQ := Lib.hid (show setOf (ps ++ [xc]) = z by rw [setOf_snoc, hq, hv, hz])
    have HP := Lib.hid (show pc (setOf ps) = p by rw [hq, hp])
    have HPS := Lib.hid hps
    have HQ0 := Lib.hid hq
    clear hps hq hv hz hp
    have f0 := e0.cell
    have f1 := e1.cell
    have g1 := e1.frozen
    by_cases hpk : p = k
    · have hpt : ((p : Int) == (k : Int)) = true := by simp [hpk]
      have HPK := Lib.hid hpk
      clear hpk
      gi_wp2_with fail
      gi_region_with_o (gi_at_call 43; refine (CallsIn.inRound l (callsIn_wide.2 (cCount _))).mono ?_; rintro e w' ⟨rfl, rfl⟩)
      all_goals
        gi_wp2_with fail
        exact ⟨(KeepsOthers.drew _).from _, ⟨rfl, ps, x.1, HSN.out, by rw [HQ0.out]; exact e1, by rw [HP.out]; exact HPK.out⟩, hB.drew⟩
    · have hpt : ((p : Int) == (k : Int)) = false := by simp; omega
      have HPK := Lib.hid hpk
      clear hpk
      gi_wp2_with fail
      gi_region_with_o (gi_at_call 43; refine (CallsIn.inRound l (callsIn_wide.2 (cCount _))).mono ?_; rintro e w' ⟨rfl, rfl⟩)
      all_goals
        gi_wp2_with fail
        gi_region_with_o (gi_at_call 33; refine (CallsIn.inRound l (callsIn_wide.2 (cOnly _))).mono ?_; rintro e w' ⟨rfl, rfl⟩)
        all_goals
          gi_wp2_with fail
          exact ⟨(((KeepsOthers.setCell W _ _).trans (KeepsOthers.drew _)).trans (KeepsOthers.drew _)).from _, ((KE.refl _ _ W).setCell (p := ⟨w.heap.size + 1, 0, none⟩) (by show w.heap.size ≤ w.heap.size + 1; omega) (by show w.heap.size + 1 + 1 ≠ w.heap.size + 1; omega) _).drew.drew, ⟨e0.other (by omega) _, by rw [HSN.out, hxc, HQ.out]; exact e1.set _, by rw [HSN.out]; exact noK_snoc _ HNO.out (by rw [HP.out]; exact HPK.out)⟩, (hB.setCell (p := ⟨w.heap.size + 1, 0, none⟩) (by show w.heap.size ≤ w.heap.size + 1; omega) _).drew.drew⟩
  case done =>
    rintro D ys W hD hys ⟨⟨e0, e1, hno⟩, hB⟩ hK
    rw [hys] at e1 hno
    have hset := noK_all hs HK.out hno
    rw [hset, HU.out] at e1
    have f1 := e1.cell
    clear hset
    gi_wp2_with fail
    refine ⟨by simp, .inl ⟨_, _, rfl, run_takeDeferred hK, ?_⟩⟩
    exact ⟨_, results_tmp rfl _ _ _, rfl, hB.trans (belowK_b (w := w) (Nat.le_refl _) W D _ _ (by omega) hK rfl rfl)⟩
  case stop =>
    rintro D c pre W hD ⟨m, hpre⟩ ⟨⟨rfl, ps, x, h1, e1, h3⟩, hB⟩ hK
    rw [h1] at hpre
    have hset := noK_stop HK.out hpre h3
    rw [hset, HU.out] at e1
    have f1 := e1.cell
    clear hset
    gi_wp2_with fail
    refine ⟨by simp, .inl ⟨_, _, rfl, run_takeDeferred hK, ?_⟩⟩
    exact ⟨_, results_tmp rfl _ _ _, rfl, hB.trans (belowK_b (w := w) (Nat.le_refl _) W D _ _ (by omega) hK rfl rfl)⟩
end Go.Proofs.YthmccldkknhejaaDoor

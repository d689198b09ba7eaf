/- The document's own bytes of a number: as few as can be, one at least. Lists of records compared (SameRecs); several rows of one's own at once: appended one by one. The document's own Encode: a record's bytes, for every record. -/
import Derived.Test.YtdmkkfpbgpijjaaGreatWad
import Derived.Test.YtdmkkfpbgpijjaaGreatWam
namespace Go.Proofs.YtdmkkfpbgpijjaaGreat
open Go.RowKit Go.Deep
set_option linter.unusedVariables false

theorem nb_iff (u : Nat) (h : u < 18446744073709551616) (j : Nat) (h1 : 1 ≤ j) (h8 : j ≤ 8) : u / 2 ^ (8 * j) = 0 ↔ nb u ≤ j := by
  have hj : j = 1 ∨ j = 2 ∨ j = 3 ∨ j = 4 ∨ j = 5 ∨ j = 6 ∨ j = 7 ∨ j = 8 := by omega
  rcases hj with rfl | rfl | rfl | rfl | rfl | rfl | rfl | rfl
  all_goals
    simp only [Nat.reduceMul, Nat.reducePow]
    unfold nb
    repeat (first | split | omega)
theorem bytesL_succ (u j : Nat) : bytesL u (j + 1) = bytesL u j ++ [((byteAt u j : Nat) : Int)] := by simp [bytesL, List.range_succ]
theorem rest_byte (u j : Nat) : u / 2 ^ (8 * j) / 256 = u / 2 ^ (8 * (j + 1)) := by
  rw [Nat.div_div_eq_div_mul, show (256 : Nat) = 2 ^ 8 from rfl, ← Nat.pow_add, show 8 * j + 8 = 8 * (j + 1) by omega]
theorem byte_wrap (r : Nat) : IntKind.u8.wrap ((r : Int) % 256) = ((r % 256 : Nat) : Int) := by
  simp [IntKind.wrap, IntKind.signed, IntKind.bits]
theorem good_one (w : World) (z : Int) : Good (some ⟨w.heap.size, 0, none⟩) 1 [z] (w.alloc (.cells #[.int .u8 z] 5)) := by
  refine ⟨fun _ => ⟨w.heap.size, 0, rfl, by simp, fun j hj => ?_⟩, Nat.le_refl _, fun e => by cases e⟩
  rw [Nat.zero_add, cell_of_row _ w.heap.size j _ 5 (0, 0) (heap_alloc_new w _)]
  simp at hj
  subst hj
  rfl
theorem owns_one (w : World) (z : Int) : Owns w.heap.size (w.alloc (.cells #[.int .u8 z] 5)) (.slice (some ⟨w.heap.size, 0, none⟩) 1 1) [z] :=
  ⟨rfl, .inr ⟨w.heap.size, 1, #[.int .u8 z], rfl, Nat.le_refl _, heap_alloc_new w _, Nat.le_refl _, by simp [maxLen], rfl, rfl⟩⟩
set_option maxRecDepth 100000 in
set_option maxHeartbeats 1000000 in
theorem small_core (n : Int) (u k : Nat) (hn : isI64 n) (hu : zigN n = u) (hk : nb u = k) (w : World) : Calls Tryz.prog 77 #[.int .i64 n] w (GivesB (bytesL u k) w) := by
  have hlt : u < 18446744073709551616 := by rw [← hu]; exact zigN_lt n hn
  have c1 := fun W => refZig_any n ⟨hn.1, hn.2⟩ W
  rw [← zigN_cast, hu] at c1
  have hk8 := nb_bd u
  rw [hk] at hk8
  have hiff := Lib.hid (fun j h1 h8 => nb_iff u hlt j h1 h8)
  have HK := Lib.hid hk
  have hb0 : bytesL u 1 = [((u % 256 : Nat) : Int)] := by simp [bytesL, byteAt]
  have hbw := byte_wrap u
  have HO : Hid (Owns w.heap.size (w.alloc (.cells #[.int .u8 ((u % 256 : Nat) : Int)] 5)) (.slice (some ⟨w.heap.size, 0, none⟩) 1 1) (bytesL u 1)) := Lib.hid (by rw [hb0]; exact owns_one w _)
  have hq : (u : Int) / 256 = ((u / 256 : Nat) : Int) := by simp
  generalize u % 256 = y at *
  generalize hq0 : u / 256 = q0 at *
  have HQ0 := Lib.hid hq0
  clear hq0
  clear hk hu hb0
  go_enter Tryz.func77, Tryz.ntmps77
  go_wp2_with fail
  (with_reducible refine (c1 _).mono ?_)
  rintro e w' ⟨rfl, rfl⟩
  clear c1
  go_wp2
  go_loopw [3, 4] (fun x v wr => ∃ j : Nat, 1 ≤ j ∧ j ≤ k ∧ x = .int .u64 ((u / 2 ^ (8 * j) : Nat) : Int) ∧ Owns w.heap.size wr v (bytesL u j) ∧ Below w.heap.size w wr) (fun x _ _ => (intOf x).toNat)
  case atStart => exact ⟨1, Nat.le_refl _, hk8.1, by rw [show u / 2 ^ (8 * 1) = u / 256 from rfl, HQ0.out], HO.out, (Below.refl _ _).alloc (Nat.le_refl _) _⟩
  case round =>
    obtain ⟨j, h1, hjk, rfl, hown, hbel⟩ := hrel
    have hs := Lib.hid (rest_byte u j)
    have hb := Lib.hid (show byteAt u j = u / 2 ^ (8 * j) % 256 from rfl)
    have hL := Lib.hid (bytesL_succ u j)
    have hlen := bytesL_length u j
    have hrl : u / 2 ^ (8 * j) < 18446744073709551616 := Nat.lt_of_le_of_lt (Nat.div_le_self _ _) hlt
    have hz := hiff.out j h1 (by omega)
    rw [HK.out] at hz
    generalize u / 2 ^ (8 * j) = r at *
    by_cases hr : r = 0
    · have hjk2 : j = k := by have := hz.1 hr; omega
      subst hr
      have HJ := Lib.hid hjk2
      clear hz hjk2
      go_wp2
      go_ret
      exact ⟨_, rfl, by rw [← HJ.out]; exact hown, hbel⟩
    · have hj2 : j < k := by
        rcases Nat.lt_or_ge j k with h | h
        · exact h
        · exact absurd (hz.2 h) hr
      have hbw2 := byte_wrap r
      have hq2 : (r : Int) / 256 = ((r / 256 : Nat) : Int) := by simp
      have hd : decide ((0 : Int) < (r : Int)) = true := by simp; omega
      have hlt2 : r / 256 < r := by omega
      have hr0 : 0 < r := by omega
      generalize hyr : r % 256 = yr at *
      generalize hqr : r / 256 = qr at *
      have g1 := good_one wr ((yr : Nat) : Int)
      have o1 := hown.below ((Below.refl _ _).alloc (Nat.le_refl _) (.cells #[.int .u8 ((yr : Nat) : Int)] 5))
      have k1 : Below w.heap.size w (wr.alloc (.cells #[.int .u8 ((yr : Nat) : Int)] 5)) := hbel.alloc hbel.size _
      have HLN := Lib.hid hlen
      have HYR := Lib.hid hyr
      clear hz hlen hyr hqr hq hbw hr
      go_wp2_with (at_builtin; refine wpList_appendB rfl _ _ rfl w.heap.size _ (bytesL u j) rfl o1 (some ⟨wr.heap.size, 0, none⟩) [((yr : Nat) : Int)] 1 1 rfl rfl g1 (by rw [HLN.out]; simp; omega) k1.size w k1 ?_; intro v' w2 o2 k2)
      go_roundw
      case rel => exact ⟨j + 1, by omega, by omega, by rw [← hs.out], by rw [hL.out, hb.out]; exact o2, k2⟩
      case measure => simp [intOf]; omega
theorem small_any (n : Int) (hn : isI64 n) (w : World) : Calls Tryz.prog 77 #[.int .i64 n] w (GivesB (valL true n) w) := small_core n _ _ hn rfl rfl w
end Go.Proofs.YtdmkkfpbgpijjaaGreat
namespace Go.Proofs.YtdmkkfpbgpijjaaGreat
open Go.RowKit Go.Deep
set_option linter.unusedVariables false

theorem run_neqR (r s : RecD) (w : World) : (binOp .neq 63 (recV r) (recV s)).run Tryz.prog w = .ok (.bool (!eqR r s)) w := by
  have h := run_eqR r s w
  rw [recV_eq, recV_eq, run_eql_struct] at h
  rw [recV_eq, recV_eq, run_neq_struct]
  cases hx : (Op.equalIn 10000 63 (.agg #[.int .i64 r.kind, .int .i64 r.tx, .int .u16 r.mask, .int .u8 r.k0, .int .u8 r.k1, .int .u8 r.k2, .int .u8 r.k3, .bool r.oT, .int .i64 r.oN, .bool r.nT, .int .i64 r.nN]) (.agg #[.int .i64 s.kind, .int .i64 s.tx, .int .u16 s.mask, .int .u8 s.k0, .int .u8 s.k1, .int .u8 s.k2, .int .u8 s.k3, .bool s.oT, .int .i64 s.oN, .bool s.nT, .int .i64 s.nN])).run Tryz.prog w with
  | ok b w' =>
    rw [hx] at h
    simp at h
    obtain ⟨rfl, rfl⟩ := h
    simp
  | halt x w' =>
    rw [hx] at h
    simp [Result.andThen] at h
set_option maxRecDepth 100000 in
set_option maxHeartbeats 2000000 in
theorem sameR (A A' : Option Addr) (xs : List RecD) (l c c' : Nat) (hl : xs.length = l) (hl2 : l ≤ 2000) (w : World) (g : GoodR A c xs w) (g' : GoodR A' c' xs w) :
    Calls Tryz.prog 18 #[.slice A l c, .slice A' l c'] w fun e w' => e = .returned (.bool true) ∧ Below w.heap.size w w' := by
  have hne : ((l : Int) != (l : Int)) = false := by simp
  have HL := Lib.hid hl
  clear hl
  go_enter Tryz.func18, Tryz.ntmps18
  go_wp2
  go_loopw [5] (fun i wr => ∃ k : Nat, k ≤ l ∧ i = .int .i64 k ∧ Dr w wr) (fun i _ => l - (intOf i).toNat)
  case atStart => exact ⟨0, Nat.zero_le _, rfl, Dr.refl w⟩
  case round =>
    obtain ⟨k, hk, rfl, n, rfl⟩ := hrel
    by_cases hlt : k < l
    · have hkl : k < xs.length := by have := HL.out; omega
      obtain ⟨b, off, rfl, hb, hro⟩ := g.cells k hkl
      obtain ⟨b', off', rfl, hb', hro'⟩ := g'.cells k hkl
      have hN : ∀ (r : RecD) (W : World), (binOp .neq 63 (.agg #[.int .i64 r.kind, .int .i64 r.tx, .int .u16 r.mask, .int .u8 r.k0, .int .u8 r.k1, .int .u8 r.k2, .int .u8 r.k3, .bool r.oT, .int .i64 r.oN, .bool r.nT, .int .i64 r.nN]) (.agg #[.int .i64 r.kind, .int .i64 r.tx, .int .u16 r.mask, .int .u8 r.k0, .int .u8 r.k1, .int .u8 r.k2, .int .u8 r.k3, .bool r.oT, .int .i64 r.oN, .bool r.nT, .int .i64 r.nN])).run Tryz.prog W = .ok (.bool false) W := fun r W => by
        have := run_neqR r r W
        rw [(eqR_iff r r).2 rfl] at this
        exact this
      have hN' := hN xs[k]
      clear hN
      generalize xs[k] = r at *
      have p0 : w.cell? ⟨b, off + k * 11, none⟩ = some (.int .i64 r.kind) := hro 0 _ rfl
      have p1 : w.cell? ⟨b, off + k * 11 + 1, none⟩ = some (.int .i64 r.tx) := hro 1 _ rfl
      have p2 : w.cell? ⟨b, off + k * 11 + 2, none⟩ = some (.int .u16 r.mask) := hro 2 _ rfl
      have p3 : w.cell? ⟨b, off + k * 11 + 3, none⟩ = some (.int .u8 r.k0) := hro 3 _ rfl
      have p4 : w.cell? ⟨b, off + k * 11 + 4, none⟩ = some (.int .u8 r.k1) := hro 4 _ rfl
      have p5 : w.cell? ⟨b, off + k * 11 + 5, none⟩ = some (.int .u8 r.k2) := hro 5 _ rfl
      have p6 : w.cell? ⟨b, off + k * 11 + 6, none⟩ = some (.int .u8 r.k3) := hro 6 _ rfl
      have p7 : w.cell? ⟨b, off + k * 11 + 7, none⟩ = some (.bool r.oT) := hro 7 _ rfl
      have p8 : w.cell? ⟨b, off + k * 11 + 8, none⟩ = some (.int .i64 r.oN) := hro 8 _ rfl
      have p9 : w.cell? ⟨b, off + k * 11 + 9, none⟩ = some (.bool r.nT) := hro 9 _ rfl
      have p10 : w.cell? ⟨b, off + k * 11 + 10, none⟩ = some (.int .i64 r.nN) := hro 10 _ rfl
      have q0 : w.cell? ⟨b', off' + k * 11, none⟩ = some (.int .i64 r.kind) := hro' 0 _ rfl
      have q1 : w.cell? ⟨b', off' + k * 11 + 1, none⟩ = some (.int .i64 r.tx) := hro' 1 _ rfl
      have q2 : w.cell? ⟨b', off' + k * 11 + 2, none⟩ = some (.int .u16 r.mask) := hro' 2 _ rfl
      have q3 : w.cell? ⟨b', off' + k * 11 + 3, none⟩ = some (.int .u8 r.k0) := hro' 3 _ rfl
      have q4 : w.cell? ⟨b', off' + k * 11 + 4, none⟩ = some (.int .u8 r.k1) := hro' 4 _ rfl
      have q5 : w.cell? ⟨b', off' + k * 11 + 5, none⟩ = some (.int .u8 r.k2) := hro' 5 _ rfl
      have q6 : w.cell? ⟨b', off' + k * 11 + 6, none⟩ = some (.int .u8 r.k3) := hro' 6 _ rfl
      have q7 : w.cell? ⟨b', off' + k * 11 + 7, none⟩ = some (.bool r.oT) := hro' 7 _ rfl
      have q8 : w.cell? ⟨b', off' + k * 11 + 8, none⟩ = some (.int .i64 r.oN) := hro' 8 _ rfl
      have q9 : w.cell? ⟨b', off' + k * 11 + 9, none⟩ = some (.bool r.nT) := hro' 9 _ rfl
      have q10 : w.cell? ⟨b', off' + k * 11 + 10, none⟩ = some (.int .i64 r.nN) := hro' 10 _ rfl
      clear hro hro' hkl
      go_wp2
      go_quiet (fail)
      go_wp2
      go_roundw
      case rel => exact ⟨k + 1, by omega, by go_num, Dr.of _⟩
      case measure => simp [intOf]; omega
    · obtain rfl : k = l := by omega
      go_wp2
      go_ret
      exact ⟨rfl, (Dr.of _).below _ (Nat.le_refl _)⟩

/-! ### several rows -/
theorem row_block {w : World} {base : Nat} {e : TypeId} {size : Nat} {v : Value} {n : Nat} {xs : List Value} (h : w.ownsRow base e size v n xs) {k : Nat} (hk : v.ownBlock = some k) : ∃ C fr, w.heap[k]? = some (.cells C e fr) := by
  rcases h.2 with ⟨rfl, _⟩ | ⟨g, cap, cur, rfl, _, hg, _⟩
  · cases hk
  · have e : g = k := by simpa [Value.ownBlock] using hk
    subst e
    exact ⟨cur, _, hg⟩
theorem rows_ne {w : World} {b1 b2 : Nat} {e1 e2 : TypeId} {s1 s2 : Nat} {v1 v2 : Value} {n1 n2 : Nat} {x1 x2 : List Value} (h : w.ownsRow b1 e1 s1 v1 n1 x1) (h' : w.ownsRow b2 e2 s2 v2 n2 x2) (hne : e1 ≠ e2) : v1.ownBlock = none ∨ v1.ownBlock ≠ v2.ownBlock := by
  cases hv : v1.ownBlock with
  | none => exact .inl rfl
  | some k =>
    right
    intro e
    obtain ⟨C, f, hC⟩ := row_block h hv
    obtain ⟨D, f', hD⟩ := row_block h' e.symm
    rw [hC] at hD
    injection hD with hD
    injection hD with _ hD _
    exact hne hD
def OwnsI (B : Nat) (w : World) (v : Value) (es : List Int) : Prop := w.ownsRow B 3 1 v es.length (es.map (Value.int .i64))
theorem OwnsI.below {B : Nat} {w w' : World} {v : Value} {es : List Int} (h : OwnsI B w v es) (hb : Below w.heap.size w w') : OwnsI B w' v es :=
  World.ownsRow.kept h (row := none) ⟨hb.os, hb.tape, hb.output, hb.size, fun j hj _ => hb.block j hj⟩ (by cases hv : v.ownBlock <;> simp)
theorem wpList_appendBg {ops : Array Oper} {rest : List Oper} {o : Oper} {a : Act} {Q : Exit → Act → World → Prop} {W : World} (hgd : o.guard = none) (s x : Operand) (ho : o.op = .call { callee := .builtin .append, args := #[s, x], argTypes := #[39, 39] })
    (base : Nat) (v : Value) (zs : List Int) (hs : a.eval s = v) (hown : Owns base W v zs) (A' : Option Addr) (ts : List Int) (l' c' : Nat) (hx : a.eval x = .slice A' l' c') (hll : ts.length = l') (h0 : 0 < l') (g : Good A' c' ts W) (hl : zs.length + ts.length ≤ 10000) (hbase : base ≤ W.heap.size) (w0 : World) (hb : Below base w0 W)
    (hnn : v ≠ .slice none 0 0) (h : ∀ v' w', Owns base w' v' (zs ++ ts) → v' ≠ .slice none 0 0 → W.grownBy w' v.ownBlock → Below base w0 w' → wpList Tryz.prog ops Q rest (a.put o.dst v') w') : wpList Tryz.prog ops Q (o :: rest) a W := by
  obtain ⟨i0, hi, hz0, hz1, hz2⟩ := info_parts info_u8
  obtain ⟨b, off, rfl⟩ := g.some (by omega)
  refine wpList_append_own W hgd s x 39 ho base 5 i0 (.int .u8 0) 1 1 Tryz.underlying39 hi hz0 hz1 hz2 rfl (by decide) v zs.length _ hs hown ⟨b, off, none⟩ l' c' (ts.map (Value.int .u8)) hx (by simp [hll]) (cells_of_good rfl g) (one_u8 ts) (by simp only [maxLen]; omega) (by omega) hbase (fun v' w' hown' hgrow hiff => h v' w' ?_ (fun e => hnn (hiff.1 e).1) hgrow (hb.grown hgrow hbase (fun k e => (World.ownsRow.lt hown k e).1)))
  unfold Owns
  rw [List.length_append, List.map_append, hll]
  exact hown'
def endsL (L : List RecD) : List Int := (List.range (L.length + 1)).map fun j => ((endsN L j : Nat) : Int)
structure Bk (B : Nat) (w0 W : World) (v5 v6 v7 : Value) (L : List RecD) : Prop where
  l : OwnsR B W v5 L
  e : OwnsI B W v6 (endsL L)
  a : Owns B W v7 (joinL L)
  b : Below B w0 W
  n5 : v5 ≠ .slice none 0 0
  n7 : v7 ≠ .slice none 0 0
theorem OwnsR.there {B : Nat} {w : World} {v : Value} {rs : List RecD} (h : OwnsR B w v rs) (hn : v ≠ .slice none 0 0) : ∃ g c, v = .slice (some ⟨g, 0, none⟩) rs.length c ∧ GoodR (some ⟨g, 0, none⟩) c rs w := by
  obtain ⟨A, c, rfl, g⟩ := h.good
  rcases h.2 with ⟨e, _⟩ | ⟨g', cap, cur, e, _⟩
  · exact absurd e hn
  · injection e with e1 e2 e3
    subst e1
    exact ⟨g', c, rfl, g⟩
theorem Owns.there {B : Nat} {w : World} {v : Value} {zs : List Int} (h : Owns B w v zs) (hn : v ≠ .slice none 0 0) : ∃ g c, v = .slice (some ⟨g, 0, none⟩) zs.length c ∧ Good (some ⟨g, 0, none⟩) c zs w := by
  obtain ⟨A, c, rfl, g⟩ := h.good
  rcases h.2 with ⟨e, _⟩ | ⟨g', cap, cur, e, _⟩
  · exact absurd e hn
  · injection e with e1 e2 e3
    subst e1
    exact ⟨g', c, rfl, g⟩
theorem Bk.below {B : Nat} {w0 W W' : World} {v5 v6 v7 : Value} {L : List RecD} (h : Bk B w0 W v5 v6 v7 L) (hb : Below W.heap.size W W') (hB : B ≤ w0.heap.size) : Bk B w0 W' v5 v6 v7 L := ⟨h.l.below hb, h.e.below hb, h.a.below hb, below_more h.b hb hB, h.n5, h.n7⟩
end Go.Proofs.YtdmkkfpbgpijjaaGreat
namespace Go.Proofs.YtdmkkfpbgpijjaaGreat
open Go.RowKit Go.Deep
set_option linter.unusedVariables false

theorem u8wrap (n : Nat) : IntKind.u8.wrap (n : Int) = ((n % 256 : Nat) : Int) := by simp [IntKind.wrap, IntKind.signed, IntKind.bits]
theorem head0 (h : Nat) : IntKind.u8.wrap ((h : Int) % 256) = ((byteAt h 0 : Nat) : Int) := by
  rw [show ((h : Int) % 256) = ((h % 256 : Nat) : Int) by simp, u8wrap]; simp [byteAt]
theorem head1 (h : Nat) : IntKind.u8.wrap ((h : Int) / 256 % 256) = ((byteAt h 1 : Nat) : Int) := by
  rw [show ((h : Int) / 256 % 256) = ((h / 256 % 256 : Nat) : Int) by simp, u8wrap]; simp [byteAt]
theorem head2 (h : Nat) (hh : h < 16777216) : IntKind.u8.wrap ((h : Int) / 65536) = ((byteAt h 2 : Nat) : Int) := by
  rw [show ((h : Int) / 65536) = ((h / 65536 : Nat) : Int) by simp, u8wrap]; simp [byteAt]
theorem mask1 (h : Nat) (hh : h < 65536) : IntKind.u8.wrap ((h : Int) / 256) = ((byteAt h 1 : Nat) : Int) := by
  rw [show ((h : Int) / 256) = ((h / 256 : Nat) : Int) by simp, u8wrap]; simp [byteAt]
theorem bytes_three (h : Nat) : bytesL h 3 = [((byteAt h 0 : Nat) : Int), ((byteAt h 1 : Nat) : Int), ((byteAt h 2 : Nat) : Int)] := by simp [bytesL, List.range_succ]
theorem bytes_two (h : Nat) : bytesL h 2 = [((byteAt h 0 : Nat) : Int), ((byteAt h 1 : Nat) : Int)] := by simp [bytesL, List.range_succ]
theorem owns_lit (w : World) (zs : List Int) (C : Array Value := (zs.map (Value.int .u8)).toArray) (hC : C = (zs.map (Value.int .u8)).toArray := by rfl) (hl : zs.length ≤ 10000 := by simp) : Owns w.heap.size (w.alloc (.cells C 5)) (.slice (some ⟨w.heap.size, 0, none⟩) zs.length zs.length) zs := by
  subst hC
  exact ⟨by simp, .inr ⟨w.heap.size, zs.length, _, rfl, Nat.le_refl _, heap_alloc_new w _, Nat.le_refl _, by simp only [maxLen]; omega, by simp, by simp; exact List.take_of_length_le (by simp)⟩⟩
set_option maxRecDepth 100000 in
set_option maxHeartbeats 2000000 in
theorem refEnc_plain (r : RecD) (hr : rightB r = true) (ok : okR r) (h2 : (r.kind == 2) = false) (h8 : (r.kind == 8) = false) (h1 : (r.kind == 1) = false) (h7 : (r.kind == 7) = false) (n1 : (r.kind != 1) = true) (n7 : (r.kind != 7) = true) (w : World) : Calls Tryz.prog 66 #[.agg #[.int .i64 r.kind, .int .i64 r.tx, .int .u16 r.mask, .int .u8 r.k0, .int .u8 r.k1, .int .u8 r.k2, .int .u8 r.k3, .bool r.oT, .int .i64 r.oN, .bool r.nT, .int .i64 r.nN]] w (EncSays r w) := by
  have hbd := right_bd r hr
  have hh := headN_lt r hr
  have hw : r.kind - 1 + 8 * r.tx = ((headN r : Nat) : Int) := by unfold headN; omega
  have c0 : ∀ W, Calls Tryz.prog 76 #[.agg #[.int .i64 r.kind, .int .i64 r.tx, .int .u16 r.mask, .int .u8 r.k0, .int .u8 r.k1, .int .u8 r.k2, .int .u8 r.k3, .bool r.oT, .int .i64 r.oN, .bool r.nT, .int .i64 r.nN]] W fun e w' => e = .returned (.bool true) ∧ Below W.heap.size W w' := fun W => refRight_any r true hr W
  have he : encL r = bytesL (headN r) 3 := by
    simp at h2 h8 h1 h7
    simp [encL, tailL, h2, h8, h1, h7]
  unfold EncSays
  rw [he]
  have HB := Lib.hid (recBox_new w r)
  obtain ⟨hbd1, hbd2, hbd3, hbd4⟩ := hbd
  generalize headN r = h at *
  have b0 := head0 h
  have b1 := head1 h
  have b2 := head2 h hh
  rw [bytes_three h]
  generalize byteAt h 0 = y0 at *
  generalize byteAt h 1 = y1 at *
  generalize byteAt h 2 = y2 at *
  clear hr ok he
  go_enter Tryz.func66, Tryz.ntmps66
  go_wp2_with fail
  (with_reducible refine (c0 _).mono ?_)
  rintro e w1 ⟨rfl, k1⟩
  have rb1 : RecBox w1 w.heap.size r := HB.out.below k1 (by simp)
  have kw1 : Below w.heap.size w w1 := ((Below.refl _ w).alloc (Nat.le_refl _) _).trans (k1.mono (by simp))
  have hs1 := rb1.at_.lt
  clear HB k1 c0
  have q0 : w1.cell? ⟨w.heap.size, 0, none⟩ = some (.int .i64 r.kind) := rb1.at_.c0
  have q1 : w1.cell? ⟨w.heap.size, 1, none⟩ = some (.int .i64 r.tx) := rb1.at_.c1
  have q2 : w1.cell? ⟨w.heap.size, 2, none⟩ = some (.int .u16 r.mask) := rb1.at_.c2
  have q3 : w1.cell? ⟨w.heap.size, 3, none⟩ = some (.int .u8 r.k0) := rb1.at_.c3
  have q4 : w1.cell? ⟨w.heap.size, 4, none⟩ = some (.int .u8 r.k1) := rb1.at_.c4
  have q5 : w1.cell? ⟨w.heap.size, 5, none⟩ = some (.int .u8 r.k2) := rb1.at_.c5
  have q6 : w1.cell? ⟨w.heap.size, 6, none⟩ = some (.int .u8 r.k3) := rb1.at_.c6
  have q7 : w1.cell? ⟨w.heap.size, 7, none⟩ = some (.bool r.oT) := rb1.at_.c7
  have q8 : w1.cell? ⟨w.heap.size, 8, none⟩ = some (.int .i64 r.oN) := rb1.at_.c8
  have q9 : w1.cell? ⟨w.heap.size, 9, none⟩ = some (.bool r.nT) := rb1.at_.c9
  have q10 : w1.cell? ⟨w.heap.size, 10, none⟩ = some (.int .i64 r.nN) := rb1.at_.c10
  have o1 := owns_lit w1 [(y0 : Int), (y1 : Int), (y2 : Int)]
  have kx : Below w1.heap.size w1 (w1.alloc (.cells #[.int .u8 y0, .int .u8 y1, .int .u8 y2] 5)) := (Below.refl _ _).alloc (Nat.le_refl _) _
  go_wp2
  go_ret2
  exact ⟨_, rfl, o1.base kw1.size, below_more kw1 kx (Nat.le_refl _)⟩
set_option maxRecDepth 100000 in
set_option maxHeartbeats 2000000 in
theorem refEnc_2 (r : RecD) (hr : rightB r = true) (ok : okR r) (h2 : (r.kind == 2) = true) (w : World) : Calls Tryz.prog 66 #[.agg #[.int .i64 r.kind, .int .i64 r.tx, .int .u16 r.mask, .int .u8 r.k0, .int .u8 r.k1, .int .u8 r.k2, .int .u8 r.k3, .bool r.oT, .int .i64 r.oN, .bool r.nT, .int .i64 r.nN]] w (EncSays r w) := by
  have hbd := right_bd r hr
  have hh := headN_lt r hr
  have hw : r.kind - 1 + 8 * r.tx = ((headN r : Nat) : Int) := by unfold headN; omega
  have c0 : ∀ W, Calls Tryz.prog 76 #[.agg #[.int .i64 r.kind, .int .i64 r.tx, .int .u16 r.mask, .int .u8 r.k0, .int .u8 r.k1, .int .u8 r.k2, .int .u8 r.k3, .bool r.oT, .int .i64 r.oN, .bool r.nT, .int .i64 r.nN]] W fun e w' => e = .returned (.bool true) ∧ Below W.heap.size W w' := fun W => refRight_any r true hr W
  have he : encL r = bytesL (headN r) 3 ++ bytesL r.mask 2 := by
    simp at *
    simp [encL, tailL, *]
  unfold EncSays
  rw [he]
  have HB := Lib.hid (recBox_new w r)
  obtain ⟨hbd1, hbd2, hbd3, hbd4⟩ := hbd
  have hmk := ok.mask
  have b3 := head0 r.mask
  have b4 := mask1 r.mask hmk
  rw [bytes_two r.mask]
  generalize byteAt r.mask 0 = z0 at *
  generalize byteAt r.mask 1 = z1 at *
  generalize headN r = h at *
  have b0 := head0 h
  have b1 := head1 h
  have b2 := head2 h hh
  rw [bytes_three h]
  generalize byteAt h 0 = y0 at *
  generalize byteAt h 1 = y1 at *
  generalize byteAt h 2 = y2 at *
  clear hr ok he
  go_enter Tryz.func66, Tryz.ntmps66
  go_wp2_with fail
  (with_reducible refine (c0 _).mono ?_)
  rintro e w1 ⟨rfl, k1⟩
  have rb1 : RecBox w1 w.heap.size r := HB.out.below k1 (by simp)
  have kw1 : Below w.heap.size w w1 := ((Below.refl _ w).alloc (Nat.le_refl _) _).trans (k1.mono (by simp))
  have hs1 := rb1.at_.lt
  clear HB k1 c0
  have q0 : w1.cell? ⟨w.heap.size, 0, none⟩ = some (.int .i64 r.kind) := rb1.at_.c0
  have q1 : w1.cell? ⟨w.heap.size, 1, none⟩ = some (.int .i64 r.tx) := rb1.at_.c1
  have q2 : w1.cell? ⟨w.heap.size, 2, none⟩ = some (.int .u16 r.mask) := rb1.at_.c2
  have q3 : w1.cell? ⟨w.heap.size, 3, none⟩ = some (.int .u8 r.k0) := rb1.at_.c3
  have q4 : w1.cell? ⟨w.heap.size, 4, none⟩ = some (.int .u8 r.k1) := rb1.at_.c4
  have q5 : w1.cell? ⟨w.heap.size, 5, none⟩ = some (.int .u8 r.k2) := rb1.at_.c5
  have q6 : w1.cell? ⟨w.heap.size, 6, none⟩ = some (.int .u8 r.k3) := rb1.at_.c6
  have q7 : w1.cell? ⟨w.heap.size, 7, none⟩ = some (.bool r.oT) := rb1.at_.c7
  have q8 : w1.cell? ⟨w.heap.size, 8, none⟩ = some (.int .i64 r.oN) := rb1.at_.c8
  have q9 : w1.cell? ⟨w.heap.size, 9, none⟩ = some (.bool r.nT) := rb1.at_.c9
  have q10 : w1.cell? ⟨w.heap.size, 10, none⟩ = some (.int .i64 r.nN) := rb1.at_.c10
  have o1 := owns_lit w1 [(y0 : Int), (y1 : Int), (y2 : Int)]
  have kx : Below w1.heap.size w1 (w1.alloc (.cells #[.int .u8 y0, .int .u8 y1, .int .u8 y2] 5)) := (Below.refl _ _).alloc (Nat.le_refl _) _
  have kx2 : Below (w1.alloc (.cells #[.int .u8 y0, .int .u8 y1, .int .u8 y2] 5)).heap.size (w1.alloc (.cells #[.int .u8 y0, .int .u8 y1, .int .u8 y2] 5)) ((w1.alloc (.cells #[.int .u8 y0, .int .u8 y1, .int .u8 y2] 5)).alloc (.cells #[.int .u8 z0, .int .u8 z1] 5)) := (Below.refl _ _).alloc (Nat.le_refl _) _
  have o2 := o1.below kx2
  have g2 := (owns_lit (w1.alloc (.cells #[.int .u8 y0, .int .u8 y1, .int .u8 y2] 5)) [(z0 : Int), (z1 : Int)]).good
  obtain ⟨A2, c2, e2, g2⟩ := g2
  injection e2 with e3 e4 e5
  subst e3 e5
  rw [show (w1.alloc (.cells #[.int .u8 y0, .int .u8 y1, .int .u8 y2] 5)).heap.size = w1.heap.size + 1 by simp] at g2
  have kx3 := below_more kx kx2 (Nat.le_refl _)
  go_wp2_with (at_builtin; refine wpList_appendB rfl _ _ rfl w1.heap.size _ [(y0 : Int), (y1 : Int), (y2 : Int)] rfl o2 (some ⟨w1.heap.size + 1, 0, none⟩) [(z0 : Int), (z1 : Int)] 2 2 rfl rfl g2 (by simp) kx3.size w1 kx3 ?_; intro v3 w3 o3 k3)
  go_ret2
  exact ⟨v3, rfl, o3.base kw1.size, below_more kw1 k3 (Nat.le_refl _)⟩
set_option maxRecDepth 100000 in
set_option maxHeartbeats 2000000 in
theorem refEnc_8 (r : RecD) (hr : rightB r = true) (ok : okR r) (h2 : (r.kind == 2) = false) (h8 : (r.kind == 8) = true) (w : World) : Calls Tryz.prog 66 #[.agg #[.int .i64 r.kind, .int .i64 r.tx, .int .u16 r.mask, .int .u8 r.k0, .int .u8 r.k1, .int .u8 r.k2, .int .u8 r.k3, .bool r.oT, .int .i64 r.oN, .bool r.nT, .int .i64 r.nN]] w (EncSays r w) := by
  have hbd := right_bd r hr
  have hh := headN_lt r hr
  have hw : r.kind - 1 + 8 * r.tx = ((headN r : Nat) : Int) := by unfold headN; omega
  have c0 : ∀ W, Calls Tryz.prog 76 #[.agg #[.int .i64 r.kind, .int .i64 r.tx, .int .u16 r.mask, .int .u8 r.k0, .int .u8 r.k1, .int .u8 r.k2, .int .u8 r.k3, .bool r.oT, .int .i64 r.oN, .bool r.nT, .int .i64 r.nN]] W fun e w' => e = .returned (.bool true) ∧ Below W.heap.size W w' := fun W => refRight_any r true hr W
  have he : encL r = bytesL (headN r) 3 ++ bytesL r.mask 2 := by
    simp at *
    simp [encL, tailL, *]
  unfold EncSays
  rw [he]
  have HB := Lib.hid (recBox_new w r)
  obtain ⟨hbd1, hbd2, hbd3, hbd4⟩ := hbd
  have hmk := ok.mask
  have b3 := head0 r.mask
  have b4 := mask1 r.mask hmk
  rw [bytes_two r.mask]
  generalize byteAt r.mask 0 = z0 at *
  generalize byteAt r.mask 1 = z1 at *
  generalize headN r = h at *
  have b0 := head0 h
  have b1 := head1 h
  have b2 := head2 h hh
  rw [bytes_three h]
  generalize byteAt h 0 = y0 at *
  generalize byteAt h 1 = y1 at *
  generalize byteAt h 2 = y2 at *
  clear hr ok he
  go_enter Tryz.func66, Tryz.ntmps66
  go_wp2_with fail
  (with_reducible refine (c0 _).mono ?_)
  rintro e w1 ⟨rfl, k1⟩
  have rb1 : RecBox w1 w.heap.size r := HB.out.below k1 (by simp)
  have kw1 : Below w.heap.size w w1 := ((Below.refl _ w).alloc (Nat.le_refl _) _).trans (k1.mono (by simp))
  have hs1 := rb1.at_.lt
  clear HB k1 c0
  have q0 : w1.cell? ⟨w.heap.size, 0, none⟩ = some (.int .i64 r.kind) := rb1.at_.c0
  have q1 : w1.cell? ⟨w.heap.size, 1, none⟩ = some (.int .i64 r.tx) := rb1.at_.c1
  have q2 : w1.cell? ⟨w.heap.size, 2, none⟩ = some (.int .u16 r.mask) := rb1.at_.c2
  have q3 : w1.cell? ⟨w.heap.size, 3, none⟩ = some (.int .u8 r.k0) := rb1.at_.c3
  have q4 : w1.cell? ⟨w.heap.size, 4, none⟩ = some (.int .u8 r.k1) := rb1.at_.c4
  have q5 : w1.cell? ⟨w.heap.size, 5, none⟩ = some (.int .u8 r.k2) := rb1.at_.c5
  have q6 : w1.cell? ⟨w.heap.size, 6, none⟩ = some (.int .u8 r.k3) := rb1.at_.c6
  have q7 : w1.cell? ⟨w.heap.size, 7, none⟩ = some (.bool r.oT) := rb1.at_.c7
  have q8 : w1.cell? ⟨w.heap.size, 8, none⟩ = some (.int .i64 r.oN) := rb1.at_.c8
  have q9 : w1.cell? ⟨w.heap.size, 9, none⟩ = some (.bool r.nT) := rb1.at_.c9
  have q10 : w1.cell? ⟨w.heap.size, 10, none⟩ = some (.int .i64 r.nN) := rb1.at_.c10
  have o1 := owns_lit w1 [(y0 : Int), (y1 : Int), (y2 : Int)]
  have kx : Below w1.heap.size w1 (w1.alloc (.cells #[.int .u8 y0, .int .u8 y1, .int .u8 y2] 5)) := (Below.refl _ _).alloc (Nat.le_refl _) _
  have kx2 : Below (w1.alloc (.cells #[.int .u8 y0, .int .u8 y1, .int .u8 y2] 5)).heap.size (w1.alloc (.cells #[.int .u8 y0, .int .u8 y1, .int .u8 y2] 5)) ((w1.alloc (.cells #[.int .u8 y0, .int .u8 y1, .int .u8 y2] 5)).alloc (.cells #[.int .u8 z0, .int .u8 z1] 5)) := (Below.refl _ _).alloc (Nat.le_refl _) _
  have o2 := o1.below kx2
  have g2 := (owns_lit (w1.alloc (.cells #[.int .u8 y0, .int .u8 y1, .int .u8 y2] 5)) [(z0 : Int), (z1 : Int)]).good
  obtain ⟨A2, c2, e2, g2⟩ := g2
  injection e2 with e3 e4 e5
  subst e3 e5
  rw [show (w1.alloc (.cells #[.int .u8 y0, .int .u8 y1, .int .u8 y2] 5)).heap.size = w1.heap.size + 1 by simp] at g2
  have kx3 := below_more kx kx2 (Nat.le_refl _)
  go_wp2_with (at_builtin; refine wpList_appendB rfl _ _ rfl w1.heap.size _ [(y0 : Int), (y1 : Int), (y2 : Int)] rfl o2 (some ⟨w1.heap.size + 1, 0, none⟩) [(z0 : Int), (z1 : Int)] 2 2 rfl rfl g2 (by simp) kx3.size w1 kx3 ?_; intro v3 w3 o3 k3)
  go_ret2
  exact ⟨v3, rfl, o3.base kw1.size, below_more kw1 k3 (Nat.le_refl _)⟩
theorem tail_kept {B B' : Nat} {w3 W W' : World} {v v' : Value} {zs zs' : List Int} (ht : Owns B W v zs) (ho : Owns B' w3 v' zs') (hB : w3.heap.size ≤ B) (hg : W.grownBy W' v'.ownBlock) : Owns B W' v zs := by
  refine World.ownsRow.kept ht hg ?_
  cases hv : v.ownBlock with
  | none => exact .inl rfl
  | some k =>
    right
    intro e
    have h1 := (World.ownsRow.lt ht k hv).1
    have h2 := (World.ownsRow.lt ho k e.symm).2
    omega
end Go.Proofs.YtdmkkfpbgpijjaaGreat

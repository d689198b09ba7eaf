/- wal: a log's sector as bytes: (sector).bytes. -/
import Derived.Test.YtdmkkfpbgpijjaaGreatWbl
import Derived.Deep.RegionHeld3
namespace Go.Proofs.YtdmkkfpbgpijjaaGreat
open Go.RowKit Go.Deep Go.Maps
set_option linter.unusedVariables false

theorem goodK {w : World} {b c : Nat} {zs : List Int} (h : w.rangeAt b 0 (secC zs)) (hb : b < w.heap.size) (hc : zs.length ≤ c) : Good (some ⟨b, 0, none⟩) c zs w := good_of_range h hb c hc
theorem range_of_good {w : World} {b off c : Nat} {zs : List Int} (g : Good (some ⟨b, off, none⟩) c zs w) : w.rangeAt b off (secC zs) := by
  intro j v hv
  have hj : j < zs.length := by
    rcases Nat.lt_or_ge j zs.length with h | h
    · exact h
    · rw [List.getElem?_eq_none (by rw [secC_len]; exact h)] at hv; cases hv
  obtain ⟨b', off', e, _, hc⟩ := g.1 (by omega)
  cases e
  rw [hc j hj]
  simp [secC, hj] at hv
  simp [hj, hv]
set_option maxRecDepth 100000 in
theorem info_room : (Tryz.prog.info? 123).map (fun i => (i.zero, i.size)) = some (some (.agg (Array.replicate 16 (Value.int .u8 0))), 16) := by kernel_rfl
theorem or_flag (l : Nat) (h : l ≤ 16) : bits .or .u8 (l : Int) 128 = ((flagN l true : Nat) : Int) := by
  have : ∀ k : Fin 17, bits .or .u8 ((k.1 : Nat) : Int) 128 = ((flagN k.1 true : Nat) : Int) := by decide +kernel
  exact this ⟨l, by omega⟩
theorem parts_four {w : World} {B : Nat} {t : TypeId} {A1 A2 A3 A4 : Option Addr} {c1 c2 c3 c4 l1 l2 l3 l4 : Nat} {z1 z2 z3 z4 : List Int} (hb : w.heap[B]? = some (.cells #[.slice A1 l1 c1, .slice A2 l2 c2, .slice A3 l3 c3, .slice A4 l4 c4] t))
    (e1 : z1.length = l1) (e2 : z2.length = l2) (e3 : z3.length = l3) (e4 : z4.length = l4) (g1 : Good A1 c1 z1 w) (g2 : Good A2 c2 z2 w) (g3 : Good A3 c3 z3 w) (g4 : Good A4 c4 z4 w) : PartsAt B [⟨A1, c1, z1⟩, ⟨A2, c2, z2⟩, ⟨A3, c3, z3⟩, ⟨A4, c4, z4⟩] w := by
  subst e1 e2 e3 e4
  refine ⟨(Array.getElem?_eq_some_iff.1 hb).1, fun j p hp => ?_⟩
  have hc : ∀ j, w.cell? ⟨B, j, none⟩ = _ := fun j => cell_of_row w B j _ t (0, 0) hb
  match j, hp with
  | 0, hp => cases hp; exact ⟨(hc 0).trans rfl, g1⟩
  | 1, hp => cases hp; exact ⟨(hc 1).trans rfl, g2⟩
  | 2, hp => cases hp; exact ⟨(hc 2).trans rfl, g3⟩
  | 3, hp => cases hp; exact ⟨(hc 3).trans rfl, g4⟩
  | j + 4, hp => simp at hp
theorem good_new (w : World) (z : Int) : Good (some ⟨w.heap.size, 0, none⟩) 1 [z] (w.alloc (.cells #[.int .u8 z] 5)) :=
  goodK (fun j v hv => by
    rw [cell_of_row _ _ _ _ 5 (0, 0) (heap_alloc_new w _)]
    have hj : j = 0 := by
      rcases Nat.eq_zero_or_pos j with h | h
      · exact h
      · rw [List.getElem?_eq_none (by simp [secC]; omega)] at hv; cases hv
    subst hj
    exact hv) (by simp) (by simp)
/-- What stays while a sector's bytes are laid together. -/
structure ByT (w : World) (An : Option Addr) (cn : Nat) (rb : Nat) (n : Nat) (zr : List Int) (W : World) : Prop where
  b : Below w.heap.size w W
  num : Good An cn (bytesL n 4) W
  room : Good (some ⟨rb, 0, none⟩) 16 zr W
theorem ByT.below {w : World} {An : Option Addr} {cn rb n : Nat} {zr : List Int} {W W' : World} (h : ByT w An cn rb n zr W) (hb : Below W.heap.size W W') : ByT w An cn rb n zr W' := ⟨below_more h.b hb (Nat.le_refl _), h.num.below hb, h.room.below hb⟩
theorem ByT.alloc {w : World} {An : Option Addr} {cn rb n : Nat} {zr : List Int} {W : World} (h : ByT w An cn rb n zr W) (o : Obj) : ByT w An cn rb n zr (W.alloc o) := h.below ((Below.refl _ _).alloc (Nat.le_refl _) o)
def bodyOf (n first : Nat) (q : Int) (zr : List Int) : List Int := bytesL n 4 ++ bytesL first 4 ++ [q] ++ zr
theorem bodyOf_len (n first : Nat) (q : Int) (zr : List Int) (h : zr.length = 16) : (bodyOf n first q zr).length = 25 := by simp [bodyOf, bytesL_length, h]
theorem concat_a {w : World} {An : Option Addr} {cn rb n first : Nat} {q : Int} {zr : List Int} (hr : zr.length = 16) {W : World} (h : ByT w An cn rb n zr W) (A1 : Option Addr) (c1 : Nat) (g1 : Good A1 c1 (bytesL first 4) W) :
    Calls Tryz.prog 80 #[.slice (some ⟨W.heap.size + 1, 0, none⟩) 4 4] ((W.alloc (.cells #[.int .u8 q] 5)).alloc (.cells #[.slice An 4 cn, .slice A1 4 c1, .slice (some ⟨W.heap.size, 0, none⟩) 1 1, .slice (some ⟨rb, 0, none⟩) 16 16] 39)) fun e w' => ∃ A2 c2, e = .returned (.slice A2 25 c2) ∧ Good A2 c2 (bodyOf n first q zr) w' ∧ ByT w An cn rb n zr w' ∧ Below W.heap.size W w' := by
  have hh := heap_alloc_new (W.alloc (.cells #[.int .u8 q] 5)) (.cells #[.slice An 4 cn, .slice A1 4 c1, .slice (some ⟨W.heap.size, 0, none⟩) 1 1, .slice (some ⟨rb, 0, none⟩) 16 16] 39)
  rw [World.size_alloc] at hh
  have h2 := (h.alloc (.cells #[.int .u8 q] 5)).alloc (.cells #[.slice An 4 cn, .slice A1 4 c1, .slice (some ⟨W.heap.size, 0, none⟩) 1 1, .slice (some ⟨rb, 0, none⟩) 16 16] 39)
  have hp := parts_four hh (bytesL_length _ _) (bytesL_length _ _) rfl hr h2.num ((g1.alloc _).alloc _) ((good_new W q).alloc _) h2.room
  refine (concat_many (W.heap.size + 1) _ 4 25 (bodyOf n first q zr) rfl (by omega) (by simp [allB, bodyOf]) (bodyOf_len _ _ _ _ hr) (by omega) (by omega) _ hp).mono ?_
  rintro e w' ⟨v, rfl, ho, hb⟩
  obtain ⟨A2, c2, rfl, g2⟩ := ho.good
  exact ⟨A2, c2, by rw [bodyOf_len _ _ _ _ hr], g2, h2.below hb, (((Below.refl W.heap.size W).alloc (Nat.le_refl _) _).alloc (by simp) _).trans (hb.mono (by simp; omega))⟩
theorem concat_b {w : World} {An : Option Addr} {cn rb n first : Nat} {q : Int} {zr : List Int} (hr : zr.length = 16) {W0 W : World} (hW : Below (W0.heap.size + 1) (W0.alloc (.cells #[.int .u8 q] 5)) W) (h : ByT w An cn rb n zr W) (A1 : Option Addr) (c1 : Nat) (g1 : Good A1 c1 (bytesL first 4) W) :
    Calls Tryz.prog 80 #[.slice (some ⟨W.heap.size, 0, none⟩) 4 4] (W.alloc (.cells #[.slice An 4 cn, .slice A1 4 c1, .slice (some ⟨W0.heap.size, 0, none⟩) 1 1, .slice (some ⟨rb, 0, none⟩) 16 16] 39)) fun e w' => ∃ A2 c2, e = .returned (.slice A2 25 c2) ∧ Good A2 c2 (bodyOf n first q zr) w' ∧ ByT w An cn rb n zr w' ∧ Below W.heap.size W w' := by
  have hh := heap_alloc_new W (.cells #[.slice An 4 cn, .slice A1 4 c1, .slice (some ⟨W0.heap.size, 0, none⟩) 1 1, .slice (some ⟨rb, 0, none⟩) 16 16] 39)
  have h2 := h.alloc (.cells #[.slice An 4 cn, .slice A1 4 c1, .slice (some ⟨W0.heap.size, 0, none⟩) 1 1, .slice (some ⟨rb, 0, none⟩) 16 16] 39)
  have gq : Good (some ⟨W0.heap.size, 0, none⟩) 1 [q] W := (good_new W0 q).below (by rw [World.size_alloc]; exact hW)
  have hp := parts_four hh (bytesL_length _ _) (bytesL_length _ _) rfl hr h2.num (g1.alloc _) (gq.alloc _) h2.room
  refine (concat_many W.heap.size _ 4 25 (bodyOf n first q zr) rfl (by omega) (by simp [allB, bodyOf]) (bodyOf_len _ _ _ _ hr) (by omega) (by omega) _ hp).mono ?_
  rintro e w' ⟨v, rfl, ho, hb⟩
  obtain ⟨A2, c2, rfl, g2⟩ := ho.good
  exact ⟨A2, c2, by rw [bodyOf_len _ _ _ _ hr], g2, h2.below hb, ((Below.refl W.heap.size W).alloc (Nat.le_refl _) _).trans (hb.mono (by simp))⟩
theorem body_is (s : Sec) (l : Nat) (hl : s.data.length = l) : bodyOf s.n s.first ((flagN l s.beg : Nat) : Int) (s.data ++ zeros (16 - l)) = bodyL s := by
  subst hl; simp [bodyOf, bodyL]

/-- copy of bytes that may be none, as a step. -/
theorem step_copyG {ops : Array Oper} {o : Oper} {a : Act} {w : World} {K : Act → World → Prop} {Q : Exit → Act → World → Prop} {E : Prop} (hgd : o.guard = none) (d s : Operand)
    (ho : o.op = .call { callee := .builtin .copy, args := #[d, s], argTypes := #[39, 39] })
    (b f dLen dCap : Nat) (A : Option Addr) (c sLen : Nat) (zs : List Int) (hd : a.eval d = .slice (some ⟨b, f, none⟩) dLen dCap) (hs : a.eval s = .slice A sLen c) (hl : zs.length = sLen) (hle : sLen ≤ dLen) (g : Good A c zs w) (ht : w.there b f sLen)
    (h : ∀ w2, Hid (w2 = w.setCells b f (secC zs)) → K (a.put o.dst (goInt sLen)) w2) :
    if Region.wanted o (yielded ops a.tmps) = true then Oper.wp Tryz.prog o a w K Q else E := by
  have hw : Region.wanted o (yielded ops a.tmps) = true := by simp [Region.wanted, hgd]
  rcases Nat.eq_zero_or_pos sLen with h0 | h0
  · subst h0
    obtain rfl : zs = [] := List.length_eq_zero_iff.1 hl
    rw [if_pos hw]
    have hrun := run_copy_none (P := Tryz.prog) w 39 39 o.type 5 (some ⟨b, f, none⟩) A dLen dCap 0 c Tryz.underlying39 sizeD_u8 (by simp)
    unfold Oper.wp
    simp [execOp, ho, resolve, invoke, builtin, hd, hs, hrun, Result.andThen]
    exact h _ (Lib.hid rfl)
  · obtain ⟨sb, sf, rfl⟩ := g.some (by omega)
    have hc : (secC zs).length = sLen := by rw [secC_len]; exact hl
    refine step_copyT hgd d s 39 39 ho 5 Tryz.underlying39 sizeD_u8 b f dLen dCap sb sf sLen c hd hs (secC zs) (by rw [hc]; exact (Nat.min_eq_left hle).symm) (range_of_good g) (by rw [hc]; exact ht) (secC_one zs) ?_
    intro w2 e2
    rw [hc]
    exact h w2 e2
/-- An array that begins at nought. -/
theorem wpList_allocZ {P : Program} {ops : Array Oper} {rest : List Oper} {o : Oper} {a : Act} {Q : Exit → Act → World → Prop} {W : World} (hgd : o.guard = none) (ty : TypeId) (ho : o.op = .alloc ty) (Z : Array Value) (n : Nat)
    (hz : (P.info? ty).map (fun i => (i.zero, i.size)) = some (some (.agg Z), n))
    (h : ∀ W1 : World, Hid (W1 = W.alloc (.cells Z ty)) → wpList P ops Q rest (a.put o.dst (.pointer (some ⟨W.heap.size, 0, none⟩))) W1) : wpList P ops Q (o :: rest) a W := by
  obtain ⟨z1, _⟩ := zero_of_info hz
  refine wpList_plain hgd fun K hK => ?_
  unfold Oper.wp
  simp [execOp, ho, Instr.alloc, z1 W, newVar, Value.cells, Result.andThen]
  exact hK _ _ (h _ (Lib.hid rfl))
/-- The room of a sector: nought, then the bytes. -/
theorem room_new (W : World) : Good (some ⟨W.heap.size, 0, none⟩) 16 (zeros 16) (W.alloc (.cells (Array.replicate 16 (Value.int .u8 0)) 123)) ∧ (W.alloc (.cells (Array.replicate 16 (Value.int .u8 0)) 123)).there W.heap.size 0 16 := by
  refine ⟨goodK (fun j v hv => ?_) (by simp) (by simp [zeros]), there_of_cells (heap_alloc_new W _) 16 (by simp)⟩
  rw [cell_of_row _ _ _ _ 123 (0, 0) (heap_alloc_new W _), Nat.zero_add, ← hv]
  simp only [secC, zeros, List.map_replicate, List.getElem?_replicate, Array.getElem?_replicate]
theorem room_put {W W2 : World} {rb : Nat} {zs : List Int} {l : Nat} (hl : zs.length = l) (h16 : l ≤ 16) (g : Good (some ⟨rb, 0, none⟩) 16 (zeros 16) W) (ht : W.there rb 0 16) (hb : rb < W.heap.size) (e : Hid (W2 = W.setCells rb 0 (secC zs))) : Good (some ⟨rb, 0, none⟩) 16 (zs ++ zeros (16 - l)) W2 := by
  subst hl
  have hz := range_of_good g
  have hr := range_store e (by rw [secC_len]; exact fun j hj => ht j (by omega))
  refine goodK (fun j v hv => ?_) (by rw [size_store e]; exact hb) (by simp [zeros]; omega)
  rw [secC_append] at hv
  rcases Nat.lt_or_ge j zs.length with hj | hj
  · rw [List.getElem?_append_left (by rw [secC_len]; exact hj)] at hv
    exact hr j v hv
  · rw [List.getElem?_append_right (by rw [secC_len]; exact hj), secC_len] at hv
    have hz2 := hz j v (by
      rw [← hv]
      simp only [secC, zeros, List.map_replicate, List.getElem?_replicate]
      split <;> split <;> first | rfl | omega)
    rw [e.out, World.cell?_setCells_out rb _ _ W _ (fun _ _ => .inr (by rw [secC_len]; show 0 + zs.length ≤ 0 + j; omega))]
    exact hz2

theorem alloc_drew_below {W W5 : World} {o : Obj} (h : Below (W.alloc o).drew.heap.size (W.alloc o).drew W5) : Below (W.drew.heap.size + 1) (W.drew.alloc o) W5 := by
  have e : (W.alloc o).drew.heap.size = W.drew.heap.size + 1 := World.size_alloc W o
  rw [e] at h
  exact h
structure ByA (w : World) (A : Option Addr) (c l n first : Nat) (b : Bool) (zs : List Int) (W : World) : Prop where
  c0 : W.cell? ⟨w.heap.size, 0, none⟩ = some (.int .i64 n)
  c1 : W.cell? ⟨w.heap.size, 1, none⟩ = some (.int .i64 first)
  c3 : W.cell? ⟨w.heap.size, 3, none⟩ = some (.slice A l c)
  room : Good (some ⟨w.heap.size + 1, 0, none⟩) 16 (zeros 16) W
  there_ : W.there (w.heap.size + 1) 0 16
  data : Good A c zs W
  below : Below w.heap.size w W
  size : w.heap.size + 1 < W.heap.size
theorem byA_new {w W1 : World} {A : Option Addr} {c l n first : Nat} {b : Bool} {zs : List Int} (g : Good A c zs w) (e : Hid (W1 = (w.alloc (.cells #[.int .i64 n, .int .i64 first, .bool b, .slice A l c] 72)).alloc (.cells (Array.replicate 16 (Value.int .u8 0)) 123))) : ByA w A c l n first b zs W1 := by
  rw [e.out]
  have hb : ∀ (j : Nat) (v : Value), (#[Value.int .i64 (n : Int), Value.int .i64 (first : Int), Value.bool b, Value.slice A l c])[j]? = some v → ((w.alloc (.cells #[.int .i64 n, .int .i64 first, .bool b, .slice A l c] 72)).alloc (.cells (Array.replicate 16 (Value.int .u8 0)) 123)).cell? ⟨w.heap.size, j, none⟩ = some v := fun j v hv => by
    rw [World.cell?_alloc_lt _ _ ⟨w.heap.size, j, none⟩ (by simp), cell_of_row _ _ _ _ 72 (0, 0) (heap_alloc_new w _)]
    exact hv
  have hr := room_new (w.alloc (.cells #[.int .i64 n, .int .i64 first, .bool b, .slice A l c] 72))
  rw [World.size_alloc] at hr
  exact ⟨hb 0 _ rfl, hb 1 _ rfl, hb 3 _ rfl, hr.1, hr.2, (g.alloc _).alloc _, ((Below.refl _ _).alloc (Nat.le_refl _) _).alloc (by simp) _, by simp⟩
structure ByC (w : World) (n first : Nat) (v3 : Value) (zr : List Int) (W : World) : Prop where
  c0 : W.cell? ⟨w.heap.size, 0, none⟩ = some (.int .i64 n)
  c1 : W.cell? ⟨w.heap.size, 1, none⟩ = some (.int .i64 first)
  c3 : W.cell? ⟨w.heap.size, 3, none⟩ = some v3
  room : Good (some ⟨w.heap.size + 1, 0, none⟩) 16 zr W
  below : Below w.heap.size w W
  size : w.heap.size + 1 < W.heap.size
theorem ByA.put {w W W2 : World} {A : Option Addr} {c l n first : Nat} {b : Bool} {zs : List Int} (h : ByA w A c l n first b zs W) (hl : zs.length = l) (h16 : l ≤ 16) (e : Hid (W2 = W.setCells (w.heap.size + 1) 0 (secC zs))) : ByC w n first (.slice A l c) (zs ++ zeros (16 - l)) W2 := by
  have hm := moves_store e
  have h0 := hm.block w.heap.size (by have := h.size; omega) (by omega)
  refine ⟨(World.cell?_of_block (a := ⟨w.heap.size, 0, none⟩) h0).trans h.c0, (World.cell?_of_block (a := ⟨w.heap.size, 1, none⟩) h0).trans h.c1, (World.cell?_of_block (a := ⟨w.heap.size, 3, none⟩) h0).trans h.c3, room_put hl h16 h.room h.there_ h.size e, h.below.trans (hm.below (by have := h.size; omega) (fun k hk => by omega)), by rw [size_store e]; exact h.size⟩
theorem ByA.drew {w W : World} {A : Option Addr} {c l n first : Nat} {b : Bool} {zs : List Int} (h : ByA w A c l n first b zs W) : ByA w A c l n first b zs W.drew := ⟨h.c0, h.c1, h.c3, h.room.drewN 1, h.there_, h.data.drewN 1, below_drewN h.below 1, h.size⟩
theorem ByC.below' {w W W2 : World} {n first : Nat} {v3 : Value} {zr : List Int} (h : ByC w n first v3 zr W) (hb : Below W.heap.size W W2) : ByC w n first v3 zr W2 :=
  ⟨(hb.cell (p := ⟨w.heap.size, 0, none⟩) (by have := h.size; show w.heap.size < _; omega)).trans h.c0, (hb.cell (p := ⟨w.heap.size, 1, none⟩) (by have := h.size; show w.heap.size < _; omega)).trans h.c1, (hb.cell (p := ⟨w.heap.size, 3, none⟩) (by have := h.size; show w.heap.size < _; omega)).trans h.c3, h.room.below hb, below_more h.below hb (Nat.le_refl _), Nat.lt_of_lt_of_le h.size hb.size⟩
set_option maxRecDepth 100000 in
set_option maxHeartbeats 1000000 in
theorem bytes_any (s : Sec) (A : Option Addr) (c l : Nat) (hl : s.data.length = l) (ok : okS s) (w : World) (g : Good A c s.data w) :
    Calls Tryz.prog 67 #[.agg #[.int .i64 s.n, .int .i64 s.first, .bool s.beg, .slice A l c]] w (GivesB (secL s) w) := by
  obtain ⟨n, first, data, beg⟩ := s
  have hl16 : l ≤ 16 := by rw [← hl]; exact ok.len
  have hn : n < 4294967296 := ok.n
  have hf : first < 4294967296 := ok.first
  have HOK := Lib.hid ok
  clear ok
  simp only at *
  have hor := or_flag l hl16
  have HL := Lib.hid hl
  clear hl
  obtain ⟨q, hq⟩ : ∃ q : Int, q = ((flagN l beg : Nat) : Int) := ⟨_, rfl⟩
  have HB := Lib.hid (body_is ⟨n, first, data, beg⟩ l HL.out)
  simp only at HB
  rw [← hq] at HB
  have hzr : (data ++ zeros (16 - l)).length = 16 := by have := HL.out; simp [zeros]; omega
  have HZR := Lib.hid hzr
  clear hzr
  have HP := Lib.hid (fun W1 e => byA_new (W1 := W1) (l := l) (n := n) (first := first) (b := beg) g e)
  clear g
  go_enter Tryz.func67, Tryz.ntmps67
  cases beg
  all_goals
    go_wp2_with (refine wpList_allocZ rfl 123 rfl _ 16 info_room ?_; intro W1 e1)
    have hA := HP.out _ e1
    clear e1 HP
    have q3 := hA.c3
    have gd := hA.data
    have ht := hA.there_
    have HPut := Lib.hid (fun W2 e => hA.drew.put (W2 := W2) HL.out hl16 e)
    clear hA
    go_region_held3 (fun w' => w'.cell? ⟨w.heap.size, 3, none⟩ = some (.slice A l c))
      (first | assumption | exact (HPut.out _ e3).c3)
      ((refine step_copyG (by rfl) _ _ (by rfl) (w.heap.size + 1) 0 16 16 A c l data (by rfl) (by rfl) HL.out hl16 (gd.drewN 1) (fun j hj => ht j (by omega)) ?_; intro W3 e3))
    have hC := HPut.out _ e3
    clear HPut e3 q3 gd ht
    have k0 := hC.c0
    go_wp2_with fail
    refine (numberOf_any n hn _).mono ?_
    rintro e W4 ⟨An, cn, rfl, gn, b4⟩
    have hC4 := hC.below' b4
    clear hC k0
    have k1 := hC4.c1
    have T4 : ByT w An cn (w.heap.size + 1) n (data ++ zeros (16 - l)) W4 := ⟨hC4.below, gn, hC4.room⟩
    have T5 : ByT w An cn (w.heap.size + 1) n (data ++ zeros (16 - l)) W4.drew := T4.below (below_drewN (Below.refl _ _) 1)
    have kS : ∀ W W' : World, W.cell? ⟨w.heap.size, 1, none⟩ = some (.int .i64 first) ∧ w.heap.size < W.heap.size → Below W.heap.size W W' → W'.cell? ⟨w.heap.size, 1, none⟩ = some (.int .i64 first) ∧ w.heap.size < W'.heap.size := fun W W' h hb => ⟨(hb.cell (p := ⟨w.heap.size, 1, none⟩) h.2).trans h.1, Nat.lt_of_lt_of_le h.2 hb.size⟩
    have kA : ∀ (W : World) (o : Obj), W.cell? ⟨w.heap.size, 1, none⟩ = some (.int .i64 first) ∧ w.heap.size < W.heap.size → (W.alloc o).cell? ⟨w.heap.size, 1, none⟩ = some (.int .i64 first) ∧ w.heap.size < (W.alloc o).heap.size := fun W o h => kS W _ h ((Below.refl _ _).alloc (Nat.le_refl _) _)
    have s4 : W4.drew.cell? ⟨w.heap.size, 1, none⟩ = some (.int .i64 first) ∧ w.heap.size < W4.drew.heap.size := ⟨k1, by have := hC4.size; show w.heap.size < W4.heap.size; omega⟩
    have s4' : W4.cell? ⟨w.heap.size, 1, none⟩ = some (.int .i64 first) ∧ w.heap.size < W4.heap.size := s4
    clear gn hC4 b4 T4
    try rw [hor]
    first | rw [← hq] | (have hq2 : q = (l : Int) := hq; subst hq2)
    clear hq
    have F1 : ∀ W, Calls Tryz.prog 78 #[.int .i64 first] W (NumGives first W) := fun W => numberOf_any first hf W
    have F2 : ∀ (A' : Option Addr) (c' : Nat) (W : World), Good A' c' (bodyL _) W → Calls Tryz.prog 79 #[.slice A' 25 c'] W (GivesB (sealL (bodyL _)) W) := fun A' c' W h => seal_any A' (bodyL _) _ c' 25 (bodyL_length HOK.out) (bodyL_bytes HOK.out) (by omega) rfl W h
    go_wp2_with fail
    go_region_held3 (fun w' => w'.cell? ⟨w.heap.size, 1, none⟩ = some (.int .i64 first) ∧ w.heap.size < w'.heap.size)
      (first | assumption | exact kA _ _ (by assumption) | exact kA _ _ (kA _ _ (by assumption)))
      (first
      | (go_at_call 78; (with_reducible refine (F1 _).mono ?_); rintro e W5 ⟨A5, c5, rfl, g5, b5⟩; have s5 := kS _ _ (by first | assumption | exact kA _ _ (by assumption)) b5)
      | (go_at_call 80; refine (concat_a HZR.out (T5.below b5) A5 c5 g5).mono ?_; rintro e W6 ⟨A6, c6, rfl, g6, T6, b6⟩; have s6 := kS _ _ s5 b6)
      | (go_at_call 79; rw [HB.out] at g6; refine (F2 _ _ _ g6).mono ?_; rintro e W7 ⟨v7, rfl, o7, b7⟩; have s7 := kS _ _ s6 b7)
      | (go_at_call 80; refine (concat_b (W0 := W4.drew) HZR.out (alloc_drew_below b5) ((T5.alloc _).below b5) A5 c5 g5).mono ?_; rintro e W6 ⟨A6, c6, rfl, g6, T6, b6⟩; have s6 := kS _ _ s5 b6))
    all_goals
      clear F1 F2 T5 s4 s4' kS kA
      have n7 := T6.num.below b7
      have bw : Below w.heap.size w W7 := below_more T6.b b7 (Nat.le_refl _)
      have o7' := o7.base T6.b.size
      have HSL := Lib.hid (seal_len HOK.out)
      clear s5 s6 s7 g5 b5 g6 T6 b6 o7 b7
      go_wp2_with (at_builtin; refine wpList_appendB rfl _ _ rfl w.heap.size _ _ rfl o7' _ (bytesL n 4) 4 cn rfl (bytesL_length _ _) n7 (by rw [HSL.out, bytesL_length]; omega) bw.size w bw ?_; intro v8 W8 o8 b8)
      go_ret
      exact ⟨v8, rfl, o8, b8⟩
end Go.Proofs.YtdmkkfpbgpijjaaGreat

/- lock: goOn. -/
import Derived.Test.YtnfodidfhnofkaaBo
namespace Go.Proofs.Ytnfodidfhnofkaa
open Go.RowKit Go.Deep Go.Maps
set_option linter.unusedVariables false
set_option linter.unusedSimpArgs false
set_option linter.unusedSectionVars false
set_option linter.unnecessarySimpa false

theorem WaitAt.tail {w : World} {g off n cap : Nat} {t : Int} {ws : List Int} (h : WaitAt w (.slice (some ⟨g, off, none⟩) n cap) (t :: ws)) : WaitAt w (.slice (some ⟨g, off + 1, none⟩) ws.length (cap - 1)) ws ∧ n = ws.length + 1 ∧ 1 ≤ cap ∧ n ≤ cap := by
  rcases h with ⟨e, _⟩ | ⟨g', off', cap', cur, e, hh, h1, h2, h3, h4, h5⟩
  · cases e
  · simp only [Value.slice.injEq, Option.some.injEq, Addr.mk.injEq, and_true] at e
    obtain ⟨⟨rfl, rfl⟩, rfl, rfl⟩ := e
    rw [List.length_cons] at h1
    refine ⟨.inr ⟨g, off + 1, cap - 1, cur, rfl, hh, by omega, by omega, h3, by omega, fun j v hj => ?_⟩, rfl, by omega, by rw [List.length_cons]; exact h1⟩
    rw [show off + 1 + j = off + (j + 1) by omega]
    exact h5 (j + 1) v (by simpa using hj)
theorem WaitAt.head {w : World} {wv : Value} {t : Int} {ws : List Int} (h : WaitAt w wv (t :: ws)) : ∃ g off cap, wv = .slice (some ⟨g, off, none⟩) (ws.length + 1) cap ∧ w.cell? ⟨g, off, none⟩ = some (.int .i64 t) := by
  rcases h.out with ⟨_, e⟩ | ⟨g, off, cap, rfl, _, _, _, h5⟩
  · cases e
  · exact ⟨g, off, cap, rfl, h5 0 t rfl⟩
/-- The wishes of those who have been granted are gone. -/
def gone (wi : Int → Option PWish) (G : List Int) (t : Int) : Option PWish := if t ∈ G then none else wi t
theorem gone_nil (wi : Int → Option PWish) : gone wi [] = wi := by funext t; simp [gone]
theorem gone_snoc (wi : Int → Option PWish) (G : List Int) (x : Int) : upd (gone wi G) x none = gone wi (G ++ [x]) := by
  funext t
  unfold upd gone
  by_cases h1 : t = x
  · simp [h1]
  · simp [h1]
theorem goOn_eq {st : PS} {k : KeyT} {r : PRow} {G ws : List Int} {hs : List (Int × Int)} (e : r.ws = G ++ ws) (hn : r.ws.Nodup) (hg : goH (wantOf st.wish) r.hs r.ws = (hs, ws)) : goOnS st k r = ⟨st.wait, upd st.rows k (rowO hs ws), gone st.wish G⟩ := by
  unfold goOnS
  rw [hg]
  have hw : (fun t => if t ∈ r.ws ∧ t ∉ ws then none else st.wish t) = gone st.wish G := by
    funext t
    unfold gone
    rw [e] at hn ⊢
    obtain ⟨_, _, hd⟩ := List.nodup_append.1 hn
    by_cases h1 : t ∈ G
    · rw [if_pos h1, if_pos ⟨List.mem_append_left _ h1, fun h2 => hd t h1 t h2 rfl⟩]
    · rw [if_neg h1, if_neg (fun h => (List.mem_append.1 h.1).elim h1 h.2)]
  rw [hw]
/-- The wish of one that still waits. -/
theorem gone_same {wi : Int → Option PWish} {G ws : List Int} {t : Int} (hn : (G ++ ws).Nodup) (ht : t ∈ ws) : gone wi G t = wi t := by
  obtain ⟨_, _, hd⟩ := List.nodup_append.1 hn
  unfold gone
  rw [if_neg fun h => hd t h t ht rfl]
/-- In the midst of going on. -/
structure GoIn (w0 wr : World) (F : Nat → Prop) (v0 : Value) (tb rb wb : Nat) (g : KeyT → Value) (m : Nat) (st : PS) (k : KeyT) (r : PRow) (rbx : Nat) (G : List Int) (hs : List (Int × Int)) (ws : List Int) (hv wv : Value) : Prop where
  ws_eq : r.ws = G ++ ws
  go : goH (wantOf st.wish) r.hs r.ws = goH (wantOf st.wish) hs ws
  box : BoxR wr rbx hv wv
  hold : HoldAt wr hv hs
  wait : WaitAt wr wv ws
  apart : ∀ b, hv.ownBlock = some b → wv.ownBlock ≠ some b
  blk : ∀ b, (hv.ownBlock = some b ∨ wv.ownBlock = some b) → (BlkOf v0 b ∨ w0.heap.size + 2 ≤ b)
  tab : TabIn wr F tb rb wb g m (fun k' => True ∧ k' ≠ k) ⟨st.wait, st.rows, gone st.wish G⟩
  moves : Moves (fun b => F b ∨ BlkOf v0 b) w0 wr
  size : w0.heap.size + 2 ≤ wr.heap.size
  len : hs.length + ws.length ≤ m
theorem all_of {w : World} {F : Nat → Prop} {tb rb wb : Nat} {g : KeyT → Value} {m : Nat} {st : PS} {k : KeyT} (h : TabIn w F tb rb wb g m (fun k' => True ∨ k' = k) st) : TabIn w F tb rb wb g m (fun _ => True) st := by
  have e : (fun k' : KeyT => True ∨ k' = k) = fun _ => True := by
    funext k'
    simp
  rw [e] at h
  exact h
def GoSays (F : Nat → Prop) (v0 : Value) (tb rb wb m : Nat) (st' : PS) (w : World) (e : Ending) (w' : World) : Prop :=
  e = .returned (.tuple #[]) ∧ (∃ g', TabIn w' (grow (fun b => F b ∨ BlkOf v0 b) w w') tb rb wb g' m (fun _ => True) st') ∧ Moves (fun b => F b ∨ BlkOf v0 b) w w'
theorem WaitAt.tail0 {w : World} {g off n : Nat} {t : Int} {ws : List Int} (h : WaitAt w (.slice (some ⟨g, off, none⟩) n 1) (t :: ws)) : WaitAt w (.slice (some ⟨g, off, none⟩) ws.length 0) ws := by
  rcases h with ⟨e, _⟩ | ⟨g', off', cap', cur, e, hh, h1, h2, h3, h4, h5⟩
  · cases e
  · simp only [Value.slice.injEq, Option.some.injEq, Addr.mk.injEq, and_true] at e
    obtain ⟨⟨rfl, rfl⟩, rfl, rfl⟩ := e
    rw [List.length_cons] at h1
    have e0 : ws = [] := List.eq_nil_of_length_eq_zero (by omega)
    subst e0
    exact .inr ⟨g, off, 0, cur, rfl, hh, by simp, by omega, h3, by omega, fun j v hj => by simp at hj⟩
theorem GoIn.below {w wr w1 : World} {F : Nat → Prop} {v0 hv wv : Value} {tb rb wb rbx m : Nat} {g : KeyT → Value} {st : PS} {k : KeyT} {r : PRow} {G ws : List Int} {hs : List (Int × Int)} (GI : GoIn w wr F v0 tb rb wb g m st k r rbx G hs ws hv wv) (hb : Below wr.heap.size wr w1) : GoIn w w1 F v0 tb rb wb g m st k r rbx G hs ws hv wv :=
  ⟨GI.ws_eq, GI.go, GI.box.below hb, GI.hold.below hb, GI.wait.below hb, GI.apart, GI.blk, GI.tab.below hb, GI.moves.trans (moves_of_below (F := fun b => F b ∨ BlkOf v0 b) hb) fun _ h => .inl h, Nat.le_trans GI.size hb.size, GI.len⟩
theorem go_put {w wr w5 : World} {F : Nat → Prop} {v0 hv wv : Value} {tb rb wb rbx m : Nat} {g : KeyT → Value} {st : PS} {k : KeyT} {r : PRow} {G ws : List Int} {hs : List (Int × Int)} (GI : GoIn w wr F v0 tb rb wb g m st k r rbx G hs ws hv wv) (hfin : goH (wantOf st.wish) hs ws = (hs, ws)) (hne : hs.length ≠ 0) (hn : r.ws.Nodup) (hd : ∀ b, BlkOf v0 b → ¬ F b) (hF : ∀ b, F b → b < w.heap.size) (hv0 : ∀ b, BlkOf v0 b → b < w.heap.size)
    (hgm : grown m (rowF st g k) = m) (hg : wr.drew.grownBy w5 (some rb)) (hmap : MapAt Try.prog 24 (fun _ => True) kLit w5 rb (grown m (rowF st g k)) (updM (rowF st g) k (some (.agg #[hv, wv])))) : GoSays F v0 tb rb wb m (goOnS st k r) w (.returned (.tuple #[])) w5 := by
  have hrow : RowAt wr.drew (.agg #[hv, wv]) ⟨hs, ws⟩ := ⟨_, _, rfl, GI.hold.kept fun _ _ => rfl, GI.wait.kept fun _ _ => rfl, GI.apart⟩
  have hbl : ∀ b, BlkOf (.agg #[hv, wv]) b → BlkOf v0 b ∨ w.heap.size + 2 ≤ b := fun b hb => GI.blk b (blk_agg hb)
  have hs := GI.tab.stored (w3 := wr.drew) (G := fun _ => False) (moves_of_below (below_drewN (Below.refl _ wr) 1)) (fun _ _ e => e) hrow (fun b hb hFb => (hbl b hb).elim (fun e => hd b e hFb) (fun e => by have := hF b hFb; omega)) GI.len (Nat.le_refl m) (Nat.le_of_eq hgm) hg hmap
  have hsz := hg.size
  have hsz2 : w.heap.size + 2 ≤ wr.drew.heap.size := GI.size
  rw [goOn_eq GI.ws_eq hn (GI.go.trans hfin), show rowO _ _ = some _ from if_neg hne]
  refine ⟨rfl, ⟨_, hs.more (fun b hb => ?_) (fun b hb => ?_)⟩, ?_⟩
  · rcases hb with hb | hb
    · exact .inl (.inl hb)
    · rcases hbl b hb with e | e
      · exact .inl (.inr e)
      · exact .inr ⟨by omega, Nat.lt_of_lt_of_le (hrow.lt hb) hsz⟩
  · rcases hb with (hb | hb) | hb
    · have := hF b hb; omega
    · have := hv0 b hb; omega
    · exact hb.2
  · exact (GI.moves.trans (moves_of_below (below_drewN (Below.refl _ wr) 1)) fun _ h => .inl h).trans (moves_of_grown (F := fun b => F b ∨ BlkOf v0 b) hg fun b e => .inl (by injection e with e; rw [← e]; exact GI.tab.f2)) fun _ h => .inl h
theorem go_del {w wr w5 : World} {F : Nat → Prop} {v0 hv wv : Value} {tb rb wb rbx m : Nat} {g : KeyT → Value} {st : PS} {k : KeyT} {r : PRow} {G : List Int} (GI : GoIn w wr F v0 tb rb wb g m st k r rbx G [] [] hv wv) (hn : r.ws.Nodup) (hF : ∀ b, F b → b < w.heap.size) (hv0 : ∀ b, BlkOf v0 b → b < w.heap.size)
    (hg : wr.drew.grownBy w5 (some rb)) (hmap : MapAt Try.prog 24 (fun _ => True) kLit w5 rb m (updM (rowF st g) k none)) : GoSays F v0 tb rb wb m (goOnS st k r) w (.returned (.tuple #[])) w5 := by
  have hs := all_of ((GI.tab.moves (G := fun _ => False) (w' := wr.drew) (moves_of_below (below_drewN (Below.refl _ wr) 1)) (fun _ _ e => e)).del hg hmap)
  have hsz := hg.size
  have hsz2 : w.heap.size + 2 ≤ wr.drew.heap.size := GI.size
  rw [goOn_eq GI.ws_eq hn (GI.go.trans rfl)]
  refine ⟨rfl, ⟨_, hs.more (fun b hb => .inl (.inl hb)) (fun b hb => ?_)⟩, ?_⟩
  · rcases hb with (hb | hb) | hb
    · have := hF b hb; omega
    · have := hv0 b hb; omega
    · exact hb.2
  · exact (GI.moves.trans (moves_of_below (below_drewN (Below.refl _ wr) 1)) fun _ h => .inl h).trans (moves_of_grown (F := fun b => F b ∨ BlkOf v0 b) hg fun b e => .inl (by injection e with e; rw [← e]; exact GI.tab.f2)) fun _ h => .inl h
theorem go_key_kept {w w1 w3 w5 : World} {F : Nat → Prop} {v0 hv wv v : Value} {tb rb wb m rbx : Nat} {g : KeyT → Value} {st : PS} {k : KeyT} {r : PRow} {G ws : List Int} {hs : List (Int × Int)} (GI : GoIn w w1 F v0 tb rb wb g m st k r rbx G hs ws hv wv) (hd : ∀ b, BlkOf v0 b → ¬ F b) (hv0 : ∀ {b}, BlkOf v0 b → b < w.heap.size)
    (g4 : Moves (fun b => b = w.heap.size + 1 ∨ hv.ownBlock = some b) w1 w3) (hg : (w3.setCell ⟨w.heap.size + 1, 1, none⟩ v).grownBy w5 (some wb)) (hwb : wb < w.heap.size) : w5.heap[w.heap.size]? = w1.heap[w.heap.size]? := by
  have hs0 := GI.size
  have hs1 := g4.size
  have e1 := hg.block w.heap.size (by simp; omega) (fun e => by injection e with e; omega)
  rw [e1, Below.heap_setCell _ _ _ _ (by show w.heap.size ≠ w.heap.size + 1; omega)]
  exact g4.block _ (by omega) fun e => e.elim (by omega) fun e => (GI.blk _ (.inl e)).elim (fun x => by have := hv0 x; omega) (fun x => by omega)
theorem go_step {w wr w1 w3 w5 : World} {F : Nat → Prop} {v0 hv hv' : Value} {tb rb wb m gb off off' cap cap' : Nat} {g : KeyT → Value} {st : PS} {k : KeyT} {r : PRow} {G ws : List Int} {t : Int} {hs : List (Int × Int)} (GI : GoIn w wr F v0 tb rb wb g m st k r (w.heap.size + 1) G hs (t :: ws) hv (.slice (some ⟨gb, off, none⟩) (ws.length + 1) cap)) (hm : mayH hs t (wantOf st.wish t) = true)
    (hd : ∀ b, BlkOf v0 b → ¬ F b) (hF : ∀ b, F b → b < w.heap.size) (hv0 : ∀ b, BlkOf v0 b → b < w.heap.size) (hb1 : Below wr.heap.size wr w1) (g1 : BoxR w3 (w.heap.size + 1) hv' (.slice (some ⟨gb, off, none⟩) (ws.length + 1) cap)) (g2 : HoldAt w3 hv' (grantH hs t (wantOf st.wish t)))
    (g3 : ∀ b, hv'.ownBlock = some b → hv.ownBlock = some b ∨ (w1.heap.size ≤ b ∧ b < w3.heap.size)) (g4 : Moves (fun b => b = w.heap.size + 1 ∨ hv.ownBlock = some b) w1 w3)
    (hg : (w3.setCell ⟨w.heap.size + 1, 1, none⟩ (.slice (some ⟨gb, off', none⟩) ws.length cap')).grownBy w5 (some wb)) (hwt : WaitAt wr (.slice (some ⟨gb, off', none⟩) ws.length cap') ws) (hmap : MapAt Try.prog 3 okI iLit w5 wb m (updM (wishF ⟨st.wait, st.rows, gone st.wish G⟩) t none)) :
    GoIn w w5 F v0 tb rb wb g m st k r (w.heap.size + 1) (G ++ [t]) (grantH hs t (wantOf st.wish t)) ws hv' (.slice (some ⟨gb, off', none⟩) ws.length cap') := by
  have hs1 := hb1.size
  have hs3 := g4.size
  have hs0 := GI.size
  have hs5 : w3.heap.size ≤ w5.heap.size := by have := hg.size; simpa using this
  have hnF : ∀ b, F b → ¬ (b = w.heap.size + 1 ∨ hv.ownBlock = some b) := fun b hb e => e.elim (fun e => by have := hF b hb; omega) (fun e => (GI.blk b (.inl e)).elim (fun x => hd b x hb) (fun x => by have := hF b hb; omega))
  have ht3 := (GI.tab.below hb1).moves g4 hnF
  have ht4 := ht3.moves (moves_setCell (fun b => b = w.heap.size + 1) w3 ⟨w.heap.size + 1, 1, none⟩ (.slice (some ⟨gb, off', none⟩) ws.length cap') rfl) (fun b hb e => by have := hF b hb; omega)
  have ht5 := ht4.wishes (wi := gone st.wish (G ++ [t])) (Nat.le_refl m) hg (by
    have e := wishF_del ⟨st.wait, st.rows, gone st.wish G⟩ t
    rw [gone_snoc] at e
    rw [← e]; exact hmap)
  have hwb : w.heap.size + 1 ≠ wb := fun e => by have := hF wb GI.tab.f3; omega
  have hk5 : ∀ b, b < w3.heap.size → b ≠ wb → w5.heap[b]? = (w3.setCell ⟨w.heap.size + 1, 1, none⟩ (.slice (some ⟨gb, off', none⟩) ws.length cap')).heap[b]? := fun b hb hne => hg.block b (by simpa using hb) (fun e => hne (by injection e))
  have hk4 : ∀ b, b < w3.heap.size → b ≠ wb → b ≠ w.heap.size + 1 → w5.heap[b]? = w3.heap[b]? := fun b hb hne hne2 => (hk5 b hb hne).trans (Below.heap_setCell _ _ _ b hne2)
  have hgb : ∀ b, (hv.ownBlock = some b ∨ (Value.slice (some ⟨gb, off, none⟩) (ws.length + 1) cap).ownBlock = some b) → b ≠ wb ∧ b ≠ w.heap.size + 1 := fun b hb => (GI.blk b hb).elim (fun e => ⟨fun x => hd b e (x ▸ GI.tab.f3), fun x => by have := hv0 b e; omega⟩) (fun e => ⟨fun x => by have := hF wb GI.tab.f3; omega, fun x => by omega⟩)
  have hwl := GI.wait.lt gb rfl
  refine ⟨by rw [GI.ws_eq]; simp, ?_, ?_, ?_, ?_, fun b hb hb2 => ?_, fun b hb => ?_, ht5, ?_, by omega, ?_⟩
  · rw [GI.go]
    conv => lhs; unfold goH
    rw [hm]
    rfl
  · exact (g1.set1 _).kept (hk5 _ g1.lt hwb)
  · refine g2.kept fun b hb => ?_
    rcases g3 b hb with e | e
    · exact hk4 b (g2.lt b hb) (hgb b (.inl e)).1 (hgb b (.inl e)).2
    · exact hk4 b e.2 (fun x => by have := hF wb GI.tab.f3; omega) (fun x => by omega)
  · refine hwt.kept fun b hb => ?_
    have hb' : gb = b := by simpa [Value.ownBlock] using hb
    subst hb'
    have hx := hgb gb (.inr rfl)
    have e1 : w3.heap[gb]? = wr.heap[gb]? := (g4.block gb (by omega) (fun e => e.elim hx.2 (fun e => GI.apart gb e rfl))).trans (hb1.block gb hwl)
    exact (hk4 gb (by omega) hx.1 hx.2).trans e1
  · have hb' : gb = b := by simpa [Value.ownBlock] using hb2
    subst hb'
    rcases g3 gb hb with e | e
    · exact GI.apart gb e rfl
    · omega
  · rcases hb with hb | hb
    · rcases g3 b hb with e | e
      · exact GI.blk b (.inl e)
      · exact .inr (by omega)
    · have hb' : gb = b := by simpa [Value.ownBlock] using hb
      subst hb'
      exact GI.blk gb (.inr rfl)
  · have m1 : Moves (fun b => F b ∨ BlkOf v0 b) w w1 := GI.moves.trans (moves_of_below (F := fun b => F b ∨ BlkOf v0 b) hb1) fun _ h => .inl h
    have m2 := m1.trans (F' := fun b => b = w.heap.size + 1 ∨ hv.ownBlock = some b) g4 fun b hb => hb.elim (fun e => .inr (by omega)) (fun e => (GI.blk b (.inl e)).elim (fun x => .inl (.inr x)) (fun x => .inr (by omega)))
    have m3 := m2.trans (moves_setCell (fun b => b = w.heap.size + 1) w3 ⟨w.heap.size + 1, 1, none⟩ (.slice (some ⟨gb, off', none⟩) ws.length cap') rfl) fun b hb => .inr (by omega)
    exact m3.trans (moves_of_grown (F := fun b => F b ∨ BlkOf v0 b) hg fun b e => .inl (by injection e with e; rw [← e]; exact GI.tab.f3)) fun _ h => .inl h
  · have := GI.len
    have := grant_len hs t (wantOf st.wish t)
    rw [List.length_cons] at *
    omega
set_option maxRecDepth 100000 in
set_option maxHeartbeats 2000000 in
theorem goOn_any (F : Nat → Prop) (tb rb wb : Nat) (g : KeyT → Value) (m : Nat) (st : PS) (k : KeyT) (r : PRow) (hv wv : Value) (w : World) (h : TabIn w F tb rb wb g m (fun k' => True ∧ k' ≠ k) st) (hr : RowAt w (.agg #[hv, wv]) r) (hd : ∀ b, BlkOf (.agg #[hv, wv]) b → ¬ F b)
    (hsome : (st.rows k).isSome = true) (hl : r.hs.length + r.ws.length ≤ m) (hm : m ≤ 1000) (hn : r.ws.Nodup) (hok : ∀ t ∈ r.ws, okI t) :
    Calls Try.prog 47 #[.pointer (some ⟨tb, 0, none⟩), KV k, .agg #[hv, wv]] w (GoSays F (.agg #[hv, wv]) tb rb wb m (goOnS st k r) w) := by
  have hgm : grown m (rowF st g k) = m := by unfold grown rowF; rw [Option.isSome_map, hsome]; rfl
  have H := Lib.hid h
  have HR := Lib.hid hr
  have HD := Lib.hid hd
  have HN := Lib.hid hn
  have HOK := Lib.hid hok
  have HGM := Lib.hid hgm
  have hbk := Lib.hid (box_key w (.int .u8 (k.a.val : Int)) (.int .u8 (k.b.val : Int)) (.int .u8 (k.c.val : Int)) (.int .u8 (k.d.val : Int)))
  have tl := h.tbl
  have rl := h.rbl
  have wl := h.wbl
  clear h hr hd hn hok hgm
  generalize hk0 : ((k.a.val : Nat) : Int) = b0 at *
  generalize hk1 : ((k.b.val : Nat) : Int) = b1 at *
  generalize hk2 : ((k.c.val : Nat) : Int) = b2 at *
  generalize hk3 : ((k.d.val : Nat) : Int) = b3 at *
  have hK : KV k = .agg #[.int .u8 b0, .int .u8 b1, .int .u8 b2, .int .u8 b3] := by rw [← hk0, ← hk1, ← hk2, ← hk3]; rfl
  have HK := Lib.hid hK
  rw [hK]
  clear hk0 hk1 hk2 hk3 hK
  go_enter Try.func47, Try.ntmps47
  go_wp2_with fail
  have hV : Below w.heap.size w ((w.alloc (.cells #[.int .u8 b0, .int .u8 b1, .int .u8 b2, .int .u8 b3] 24)).alloc (.cells #[hv, wv] 64)) := ((Below.refl _ w).alloc (Nat.le_refl _) _).alloc (by simp) _
  have hsz : ((w.alloc (.cells #[.int .u8 b0, .int .u8 b1, .int .u8 b2, .int .u8 b3] 24)).alloc (.cells #[hv, wv] 64)).heap.size = w.heap.size + 2 := by simp
  have hbox : BoxR ((w.alloc (.cells #[.int .u8 b0, .int .u8 b1, .int .u8 b2, .int .u8 b3] 24)).alloc (.cells #[hv, wv] 64)) (w.heap.size + 1) hv wv := by
    have := BoxR.new (w.alloc (.cells #[.int .u8 b0, .int .u8 b1, .int .u8 b2, .int .u8 b3] 24)) hv wv
    rwa [World.size_alloc] at this
  have hKB : ((w.alloc (.cells #[.int .u8 b0, .int .u8 b1, .int .u8 b2, .int .u8 b3] 24)).alloc (.cells #[hv, wv] 64)).heap[w.heap.size]? = some (.cells #[.int .u8 b0, .int .u8 b1, .int .u8 b2, .int .u8 b3] 24 (0, 0)) := (Below.heap_alloc _ _ _ (by simp)).trans (heap_alloc_new w _)
  generalize ((w.alloc (.cells #[.int .u8 b0, .int .u8 b1, .int .u8 b2, .int .u8 b3] 24)).alloc (.cells #[hv, wv] 64)) = V at *
  go_loopg [6, 7] r.ws.length (fun gg _ _ wr => ∃ G hs ws hv' wv', Hid (GoIn w wr F (.agg #[hv, wv]) tb rb wb g m st k r (w.heap.size + 1) G hs ws hv' wv') ∧ ws.length ≤ gg ∧ Hid (wr.heap[w.heap.size]? = some (.cells #[.int .u8 b0, .int .u8 b1, .int .u8 b2, .int .u8 b3] 24 (0, 0))))
  case atStart =>
    refine ⟨[], r.hs, r.ws, hv, wv, Lib.hid ⟨rfl, rfl, hbox, HR.out.hold.below hV, HR.out.wait.below hV, ?_, fun b hb => .inl ⟨_, _, rfl, hb⟩, ?_, moves_of_below hV, by omega, hl⟩, Nat.le_refl _, Lib.hid hKB⟩
    · obtain ⟨hv0, wv0, e0, _, _, h0⟩ := HR.out
      simp only [Value.agg.injEq, Array.mk.injEq, List.cons.injEq, and_true] at e0
      obtain ⟨rfl, rfl⟩ := e0
      exact h0
    · rw [gone_nil]
      exact H.out.below hV
  case round =>
    obtain ⟨G, hs, ws, hv', wv', GI, hgg, KB⟩ := hrel
    have KBX := KB.out
    have k0 : wr.cell? ⟨w.heap.size, 0, none⟩ = some (.int .u8 b0) := by simp [World.cell?, KBX]
    have k1 : wr.cell? ⟨w.heap.size, 1, none⟩ = some (.int .u8 b1) := by simp [World.cell?, KBX]
    have k2 : wr.cell? ⟨w.heap.size, 2, none⟩ = some (.int .u8 b2) := by simp [World.cell?, KBX]
    have k3 : wr.cell? ⟨w.heap.size, 3, none⟩ = some (.int .u8 b3) := by simp [World.cell?, KBX]
    clear KBX
    have c1 := GI.out.tab.c1
    have c2 := GI.out.tab.c2
    have hs0 := GI.out.size
    have hkl : w.heap.size < wr.heap.size := by omega
    have hrl : w.heap.size + 1 < wr.heap.size := by omega
    have MP := Lib.hid (show MapAt Try.prog 24 (fun _ => True) kLit wr.drew rb m (rowF st g) from GI.out.tab.map1)
    have d0 := GI.out.box.c0
    have d1 := GI.out.box.c1
    have hbl := GI.out.box.lt
    obtain ⟨Ah, ch, rfl⟩ := GI.out.hold.isSlice
    cases ws with
    | nil =>
      obtain ⟨A2, c2', rfl⟩ := GI.out.wait.isSlice
      rw [List.length_nil] at d1
      cases hs with
      | nil =>
        rw [List.length_nil] at d0
        go_wp2_with fail
        go_still_tail 5, (by kernel_rfl)
        change wpList _ _ _ _ _ wr.drew
        go_wp2_with (first | (at_delete; refine wpList_del kindKey rfl _ _ 55 rfl 64 Try.underlying55 rb m _ rfl MP.out k HK.out.symm trivial ?_; intro w5 hmap hgr) | fail)
        (try simp only [Exit.inBlock, Exit.then])
        refine bodyPost_ret (results_none rfl _ _ _) rfl ?_
        exact go_del GI.out HN.out (fun b hb => H.out.lt b hb) (fun b hb => HR.out.lt hb) hgr hmap
      | cons p hs =>
        have hln : (((p :: hs).length : Int) == 0) = false := by simp; omega
        go_wp2_with fail
        go_still_tail 6, (by kernel_rfl)
        change wpList _ _ _ _ _ wr.drew
        go_wp2_with (first | (at_mapUpdate; refine wpList_put kindKey rfl _ _ _ 55 rfl 64 Try.underlying55 rb m _ rfl MP.out (by unfold maxLen; omega) k _ HK.out.symm trivial rfl ?_; intro w5 hmap hgr) | fail)
        go_end0
        exact go_put GI.out rfl (by simp) HN.out HD.out (fun b hb => H.out.lt b hb) (fun b hb => HR.out.lt hb) HGM.out hgr hmap
    | cons t ws =>
      obtain ⟨gb, off, cap, rfl, hcell⟩ := GI.out.wait.head
      have ht : t ∈ r.ws := by rw [GI.out.ws_eq]; exact List.mem_append_right _ List.mem_cons_self
      have hwi := GI.out.tab.wish1 (w' := wr) (HOK.out t ht) rfl
      have hgs : gone st.wish G t = st.wish t := gone_same (ws := t :: ws) (by rw [← GI.out.ws_eq]; exact HN.out) List.mem_cons_self
      have hwp := (wish_parts ⟨st.wait, st.rows, gone st.wish G⟩ t).1
      have hww : wantW ⟨st.wait, st.rows, gone st.wish G⟩ t = wantOf st.wish t := by unfold wantW wantOf; simp only [hgs]; cases st.wish t <;> rfl
      rw [hwp, hww] at hwi
      unfold kv at hwi
      simp only [List.cons_append, List.nil_append] at hwi
      obtain ⟨wt, hwt⟩ : ∃ x, wantOf st.wish t = x := ⟨_, rfl⟩
      rw [hwt] at hwi
      have HWT := Lib.hid hwt
      generalize (((keyW ⟨st.wait, st.rows, gone st.wish G⟩ t).a.val : Nat) : Int) = z0 at *
      generalize (((keyW ⟨st.wait, st.rows, gone st.wish G⟩ t).b.val : Nat) : Int) = z1 at *
      generalize (((keyW ⟨st.wait, st.rows, gone st.wish G⟩ t).c.val : Nat) : Int) = z2 at *
      generalize (((keyW ⟨st.wait, st.rows, gone st.wish G⟩ t).d.val : Nat) : Int) = z3 at *
      generalize sinceW ⟨st.wait, st.rows, gone st.wish G⟩ t = z5 at *
      clear ht hgs hwp hww hwt
      have hfd : ∀ w' : World, (Instr.field 68 (.agg #[.int .u8 z0, .int .u8 z1, .int .u8 z2, .int .u8 z3, .int .i64 wt, .int .i64 z5]) 1).run Try.prog w' = .ok (.int .i64 wt) w' := fun _ => by kernel_rfl
      obtain ⟨q, hq⟩ : ∃ q, mayH hs t wt = q := ⟨_, rfl⟩
      have HQ := Lib.hid hq
      clear hq
      have htl := GI.out.wait.tail
      have hcap1 : (1 : Int) ≤ (cap : Int) := by omega
      have hln1 : ((ws.length + 1 : Nat) : Int) = (ws.length : Int) + 1 := by omega
      have HCAP := Lib.hid htl
      clear htl
      go_wp2_with fail
      refine (may_any _ (.slice (some ⟨gb, off, none⟩) (ws.length + 1) cap) _ t wt q wr GI.out.hold HQ.out).mono ?_
      rintro e w1 ⟨rfl, hb1⟩
      cases q with
      | false =>
        have KB1 := Lib.hid ((hb1.block _ hkl).trans KB.out)
        have GI1 := Lib.hid (GI.out.below hb1)
        have hh1 := hb1.size
        clear hcell hwi d0 d1 c1 c2 k0 k1 k2 k3 MP hcap1 hln1 hfd hs0
        have KBX := KB1.out
        have k0 : w1.cell? ⟨w.heap.size, 0, none⟩ = some (.int .u8 b0) := by simp [World.cell?, KBX]
        have k1 : w1.cell? ⟨w.heap.size, 1, none⟩ = some (.int .u8 b1) := by simp [World.cell?, KBX]
        have k2 : w1.cell? ⟨w.heap.size, 2, none⟩ = some (.int .u8 b2) := by simp [World.cell?, KBX]
        have k3 : w1.cell? ⟨w.heap.size, 3, none⟩ = some (.int .u8 b3) := by simp [World.cell?, KBX]
        clear KBX
        have c1 := GI1.out.tab.c1
        have c2 := GI1.out.tab.c2
        have d0 := GI1.out.box.c0
        have d1 := GI1.out.box.c1
        clear GI hb1
        have hne : hs.length ≠ 0 := fun e => by have := HQ.out; rw [List.length_eq_zero_iff.1 e] at this; exact Bool.noConfusion this
        have hln : ((hs.length : Int) == 0) = false := by simpa using hne
        have hfin : goH (wantOf st.wish) hs (t :: ws) = (hs, t :: ws) := by unfold goH; rw [HWT.out, HQ.out]; rfl
        have HFIN := Lib.hid hfin
        have HNE := Lib.hid hne
        clear hne hfin
        have MP := Lib.hid (show MapAt Try.prog 24 (fun _ => True) kLit w1.drew rb m (rowF st g) from GI1.out.tab.map1)
        go_wp2_with fail
        go_still_tail 6, (by kernel_rfl)
        change wpList _ _ _ _ _ w1.drew
        go_wp2_with (first | (at_mapUpdate; refine wpList_put kindKey rfl _ _ _ 55 rfl 64 Try.underlying55 rb m _ rfl MP.out (by unfold maxLen; omega) k _ HK.out.symm trivial rfl ?_; intro w5 hmap hgr) | fail)
        go_end0
        exact go_put GI1.out HFIN.out HNE.out HN.out HD.out (fun b hb => H.out.lt b hb) (fun b hb => HR.out.lt hb) HGM.out hgr hmap
      | true =>
        have KB1 := Lib.hid ((hb1.block _ hkl).trans KB.out)
        have GI1 := Lib.hid (GI.out.below hb1)
        have hh1 := hb1.size
        clear hcell hwi d0 d1 c1 c2 k0 k1 k2 k3 MP hcap1 hln1 hfd hs0
        have hnr : (Value.slice Ah hs.length ch).ownBlock ≠ some (w.heap.size + 1) := fun e => (GI1.out.blk _ (.inl e)).elim (fun x => by have := HR.out.lt x; omega) (fun x => by omega)
        have HNR := Lib.hid hnr
        clear hnr
        have d1 := GI1.out.box.c1
        go_wp2_with fail
        refine (grant_any (w.heap.size + 1) (.slice Ah hs.length ch) (.slice (some ⟨gb, off, none⟩) (ws.length + 1) cap) hs t wt w1 GI1.out.box GI1.out.hold HNR.out (by have := GI1.out.len; omega)).mono ?_
        rintro e w3 ⟨rfl, hv', g1, g2, g3, g4⟩
        have G1 := Lib.hid g1
        have G2 := Lib.hid g2
        have G3 := Lib.hid g3
        have G4 := Lib.hid g4
        have hh3 := g4.size
        have e1 := g1.c1
        have f1 := g1.f0 1
        have hbl3 := g1.lt
        have t3 := Lib.hid (GI1.out.tab.moves g4 (fun b hb e => e.elim (fun e => by have := H.out.lt b hb; omega) (fun e => (GI1.out.blk b (.inl e)).elim (fun x => HD.out b x hb) (fun x => by have := H.out.lt b hb; omega))))
        have c2 := t3.out.c2
        clear g1 g2 g3 g4 d1 GI
        have htbx : tb ≠ w.heap.size + 1 := by omega
        have hcl : ((ws.length + 1 : Nat) : Int) = (ws.length : Int) + 1 := by omega
        have hcp := HCAP.out.2.2.1
        have hcq := HCAP.out.2.2.2
        have hb1' := Lib.hid hb1
        clear hb1
        have MP2 := Lib.hid (show ∀ v, MapAt Try.prog 3 okI iLit (w3.setCell ⟨w.heap.size + 1, 1, none⟩ v) wb m (wishF ⟨st.wait, st.rows, gone st.wish G⟩) from fun v => t3.out.map2.block (Below.heap_setCell _ _ _ wb (show wb ≠ w.heap.size + 1 by omega)))
        go_wp2_with (first | (at_delete; refine wpList_del kindInt rfl _ _ 56 rfl 68 Try.underlying56 wb m _ rfl (MP2.out _) t rfl (HOK.out t (by rw [GI1.out.ws_eq]; exact List.mem_append_right _ List.mem_cons_self)) ?_; intro w5 hmap hgr) | fail)
        case inl =>
          obtain rfl : cap = 1 := by omega
          have HW := Lib.hid (GI1.out.wait.tail0)
          have HG := Lib.hid (go_step GI1.out (by rw [HWT.out]; exact HQ.out) HD.out (fun b hb => H.out.lt b hb) (fun b hb => HR.out.lt hb) (Below.refl _ w1) (by rw [HWT.out] at *; exact G1.out) (by rw [HWT.out]; exact G2.out) G3.out G4.out hgr HW.out hmap)
          have KB5 := Lib.hid ((go_key_kept GI1.out HD.out HR.out.lt G4.out hgr (by omega)).trans KB1.out)
          go_roundg ws.length
          case measure => rw [List.length_cons] at hgg; omega
          case rel => exact ⟨_, _, _, _, _, HG, Nat.le_refl _, KB5⟩
        case inr =>
          have hc1 : cap ≠ 1 := by omega
          rw [if_neg hc1] at hgr
          have HW := Lib.hid (GI1.out.wait.tail.1)
          have HG := Lib.hid (go_step GI1.out (by rw [HWT.out]; exact HQ.out) HD.out (fun b hb => H.out.lt b hb) (fun b hb => HR.out.lt hb) (Below.refl _ w1) (by rw [HWT.out] at *; exact G1.out) (by rw [HWT.out]; exact G2.out) G3.out G4.out hgr HW.out hmap)
          have KB5 := Lib.hid ((go_key_kept GI1.out HD.out HR.out.lt G4.out hgr (by omega)).trans KB1.out)
          go_roundg ws.length
          case measure => rw [List.length_cons] at hgg; omega
          case rel => exact ⟨_, _, _, _, _, HG, Nat.le_refl _, KB5⟩
end Go.Proofs.Ytnfodidfhnofkaa

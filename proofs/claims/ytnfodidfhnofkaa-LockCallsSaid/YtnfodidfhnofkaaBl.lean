/- A row of locks: queue (slices.Insert of a number). -/
import Derived.Test.YtnfodidfhnofkaaBk
import Derived.Deep.RegionHeld3
namespace Go.Proofs.Ytnfodidfhnofkaa
open Go.RowKit Go.Deep Go.Maps Go.Sort Go.Lib

theorem setCells_read {b : Nat} {t : TypeId} : ∀ (vs : List Value) (o : Nat) (w : World) (cs : Array Value), w.heap[b]? = some (.cells cs t (0, 0)) → o + vs.length ≤ cs.size →
    ∃ cs', (w.setCells b o vs).heap[b]? = some (.cells cs' t (0, 0)) ∧ cs'.size = cs.size ∧ ∀ k, cs'[k]? = if o ≤ k ∧ k < o + vs.length then vs[k - o]? else cs[k]?
  | [], o, w, cs, h, _ => ⟨cs, h, rfl, fun k => by rw [if_neg (by simp)]⟩
  | v :: vs, o, w, cs, h, ho => by
    rw [List.length_cons] at ho
    obtain ⟨cs', h1, h2, h3⟩ := setCells_read vs (o + 1) (w.setCell ⟨b, o, none⟩ v) _ (setCell_heap h) (by simp; omega)
    refine ⟨cs', h1, by rw [h2]; simp, fun k => ?_⟩
    rw [h3 k, List.length_cons]
    by_cases e : k = o
    · subst e
      rw [if_neg (by omega), if_pos (by omega), Nat.sub_self, Array.getElem?_setIfInBounds, if_pos rfl, if_pos (by omega)]
      rfl
    · by_cases e2 : o + 1 ≤ k ∧ k < o + 1 + vs.length
      · rw [if_pos e2, if_pos (by omega), show k - o = (k - (o + 1)) + 1 by omega, List.getElem?_cons_succ]
      · rw [if_neg e2, if_neg (by omega), Array.getElem?_setIfInBounds, if_neg (fun x => e x.symm)]
theorem setCells_other {b k : Nat} (hk : k ≠ b) : ∀ (vs : List Value) (o : Nat) (w : World), (w.setCells b o vs).heap[k]? = w.heap[k]?
  | [], _, _ => rfl
  | v :: vs, o, w => by rw [World.setCells, setCells_other hk vs, Below.heap_setCell _ _ _ k hk]
theorem size_setCells (b : Nat) : ∀ (vs : List Value) (o : Nat) (w : World), (w.setCells b o vs).heap.size = w.heap.size
  | [], _, _ => rfl
  | v :: vs, o, w => by rw [World.setCells, size_setCells b vs]; simp
theorem setCells_os (b : Nat) : ∀ (vs : List Value) (o : Nat) (w : World), (w.setCells b o vs).os = w.os
  | [], _, _ => rfl
  | v :: vs, o, w => by rw [World.setCells, setCells_os b vs]; rfl
theorem setCells_tape (b : Nat) : ∀ (vs : List Value) (o : Nat) (w : World), (w.setCells b o vs).tape = w.tape
  | [], _, _ => rfl
  | v :: vs, o, w => by rw [World.setCells, setCells_tape b vs]; rfl
theorem setCells_output (b : Nat) : ∀ (vs : List Value) (o : Nat) (w : World), (w.setCells b o vs).output = w.output
  | [], _, _ => rfl
  | v :: vs, o, w => by rw [World.setCells, setCells_output b vs]; rfl
def iv (zs : List Int) : List Value := zs.map (Value.int .i64)
theorem iv_one (zs : List Int) : ∀ v ∈ iv zs, v.oneCell' = true := by
  intro v hv
  simp only [iv, List.mem_map] at hv
  obtain ⟨z, _, rfl⟩ := hv
  rfl
theorem iv_at {zs : List Int} {j : Nat} {v : Value} (h : (iv zs)[j]? = some v) : ∃ z, zs[j]? = some z ∧ v = .int .i64 z := by
  simp only [iv, List.getElem?_map, Option.map_eq_some_iff] at h
  obtain ⟨z, h1, h2⟩ := h
  exact ⟨z, h1, h2.symm⟩
def insW (ws : List Int) (i : Nat) (tx : Int) : List Int := ws.take i ++ tx :: ws.drop i
theorem insW_len (ws : List Int) (i : Nat) (tx : Int) : (insW ws i tx).length = ws.length + 1 := by simp [insW]; omega
theorem insW_at (ws : List Int) (i : Nat) (tx : Int) (hi : i ≤ ws.length) (j : Nat) : (insW ws i tx)[j]? = if j < i then ws[j]? else if j = i then some tx else ws[j - 1]? := by
  have hl : (ws.take i).length = i := by rw [List.length_take]; omega
  unfold insW
  split
  · rename_i h
    rw [List.getElem?_append_left (by omega), List.getElem?_take_of_lt h]
  · rename_i h
    rw [List.getElem?_append_right (by omega), hl]
    split
    · rename_i h2
      subst h2
      simp
    · rename_i h2
      obtain ⟨d, hd⟩ : ∃ d, j - i = d + 1 := ⟨j - i - 1, by omega⟩
      rw [hd, List.getElem?_cons_succ, List.getElem?_drop]
      congr 1
      omega
theorem iv_len (zs : List Int) : (iv zs).length = zs.length := by simp [iv]
theorem iv_get (zs : List Int) (j : Nat) : (iv zs)[j]? = (zs[j]?).map (Value.int .i64) := by simp [iv]
theorem zeros_size (k : Nat) : (Builtin.zeroCells (Value.int .i64 0).cells k).size = k := by simp [Builtin.zeroCells, Value.cells]
/-- slices.Insert of one number. -/
theorem insert_any (wv : Value) (ws : List Int) (i : Nat) (tx : Int) (vb : Nat) (w : World) (h : WaitAt w wv ws) (hi : i ≤ ws.length) (hv : w.heap[vb]? = some (.cells #[.int .i64 tx] 3 (0, 0))) (hne : wv.ownBlock ≠ some vb) (hl : ws.length ≤ 10000) :
    Calls Try.prog 60 #[wv, .int .i64 i, .slice (some ⟨vb, 0, none⟩) 1 1] w fun e w' => ∃ wv', e = .returned wv' ∧ WaitAt w' wv' (insW ws i tx) ∧ (∀ k, wv'.ownBlock = some k → wv.ownBlock = some k ∨ (w.heap.size ≤ k ∧ k < w'.heap.size)) ∧ Moves (fun k => wv.ownBlock = some k) w w' := by
  have hvs : ∀ j v, (iv [tx])[j]? = some v → w.cell? ⟨vb, 0 + j, none⟩ = some v := fun j v hj => by
    rw [cell_of_row w vb (0 + j) _ _ _ hv]
    match j, hj with
    | 0, hj => simpa [iv] using hj
    | j + 1, hj => simp [iv] at hj
  have hend : ∀ (base : Option Addr) (n c : Nat), ws.length = n → n ≤ c → c < n + 1 → i = n → wv = .slice base n c → (base = none → n = 0) → (∀ a, base = some a → ∀ j v, (iv ws)[j]? = some v → w.cell? (a.add j) = some v) →
      Calls Try.prog 60 #[wv, .int .i64 i, .slice (some ⟨vb, 0, none⟩) 1 1] w fun e w' => ∃ wv', e = .returned wv' ∧ WaitAt w' wv' (insW ws i tx) ∧ (∀ k, wv'.ownBlock = some k → wv.ownBlock = some k ∨ (w.heap.size ≤ k ∧ k < w'.heap.size)) ∧ Moves (fun k => wv.ownBlock = some k) w w' := by
    rintro base n c rfl hnc hc rfl rfl hnil hcs
    have hcl := Any2.slices_Insert_int_end_grow Try.laysIns base ws.length c vb 0 1 1 (iv ws) (iv [tx]) w (by omega) hnc hc (by omega) (iv_len _) rfl hnil hcs hvs (iv_one _)
    change Calls Try.prog 60 _ _ _ at hcl
    refine hcl.mono ?_
    rintro e w' ⟨rfl, rfl⟩
    have hG := grownCap_ge w (ws.length + 1) c 3
    have hG2 := grownCap_le_maxLen w (ws.length + 1) c 3 (by unfold maxLen; omega)
    change ws.length + 1 ≤ grownCap w (ws.length + 1) c (Try.laysIns_ren.t 3) at hG
    change grownCap w (ws.length + 1) c (Try.laysIns_ren.t 3) ≤ maxLen at hG2
    generalize grownCap w (ws.length + 1) c (Try.laysIns_ren.t 3) = G at *
    have hm : Moves (fun k => (Value.slice base ws.length c).ownBlock = some k) w (w.drew.alloc (.cells ((iv ws ++ iv [tx]).toArray ++ Builtin.zeroCells (Value.int .i64 0).cells (G - (ws.length + 1))) (Try.laysIns_ren.t 3))) := ⟨rfl, rfl, rfl, by simp, fun k hk _ => (Below.heap_alloc w.drew _ k hk).trans rfl⟩
    refine ⟨_, rfl, .inr ⟨w.heap.size, 0, G, _, by rw [insW_len], heap_alloc_new w.drew _, by rw [insW_len]; exact hG, hG2, ?_, ?_, fun j v hj => ?_⟩, fun k hk => .inr ?_, hm⟩
    · simp [zeros_size, iv]; omega
    · simp [zeros_size, iv]; omega
    · rw [insW_at _ _ _ (Nat.le_refl _)] at hj
      have hj2 : (iv ws ++ iv [tx])[j]? = some (.int .i64 v) := by
        split at hj
        · rename_i h; rw [List.getElem?_append_left (by rw [iv_len]; exact h), iv_get, hj]; rfl
        · split at hj
          · rename_i h; subst h; rw [List.getElem?_append_right (by rw [iv_len]; omega), iv_len, Nat.sub_self]; cases hj; rfl
          · rename_i h1 h2; rw [List.getElem?_eq_none (by omega)] at hj; cases hj
      have hjl := (List.getElem?_eq_some_iff.1 hj2).1
      rw [Nat.zero_add, Array.getElem?_append_left (by simpa using hjl)]
      simpa using hj2
    · simp only [Value.ownBlock, Option.some.injEq] at hk
      subst hk
      exact ⟨Nat.le_refl _, by simp⟩
  rcases h with ⟨rfl, rfl⟩ | ⟨g, off, cap, cur, rfl, hh, h1, h2, h3, h4, h5⟩
  · obtain rfl : i = 0 := by simpa using hi
    exact hend none 0 0 rfl (Nat.le_refl _) (by omega) rfl rfl (fun _ => rfl) (fun a ha => by cases ha)
  · have hbig : cap ≤ 9223372036854775807 := by unfold maxLen at h2; omega
    have hcs : ∀ j v, (iv ws)[j]? = some v → w.cell? ⟨g, off + j, none⟩ = some v := fun j v hj => by
      obtain ⟨z, hz, rfl⟩ := iv_at hj
      rw [cell_of_row w g (off + j) cur _ _ hh]
      exact h5 j z hz
    have hsp : ∀ j, j < cap → (w.cell? ⟨g, off + j, none⟩).isSome = true := fun j hj => by
      rw [cell_of_row w g (off + j) cur _ _ hh, Array.getElem?_eq_getElem (by omega)]; rfl
    have hfz : ∀ j, w.frozen? ⟨g, j, none⟩ = false := fun j => by simp [World.frozen?, hh]
    have hgl : g < w.heap.size := (Array.getElem?_eq_some_iff.1 hh).1
    have hvg : vb ≠ g := fun e => hne (by rw [e]; rfl)
    by_cases hroom : ws.length + 1 ≤ cap
    · by_cases hlt : i < ws.length
      · have hcl := Any2.slices_Insert_int_shift Try.laysIns g off ws.length cap i vb 0 1 1 (iv ws) (iv [tx]) w hlt (by omega) hroom hbig hvg (iv_len _) rfl hcs (fun j hj => hsp j (by omega)) (fun j _ => hfz _) hvs (iv_one _) (iv_one _) 3 3 1 cur.size (by simp [World.shape?, hv]) (by simp [World.shape?, hh]) (by omega) (by simp [World.frozen?, hv]) (by simp [World.frozen?, hv])
        change Calls Try.prog 60 _ _ _ at hcl
        refine hcl.mono ?_
        rintro e w' ⟨rfl, rfl⟩
        have hdl : ((iv ws).drop i).length = ws.length - i := by rw [List.length_drop, iv_len]
        obtain ⟨c1, a1, a2, a3⟩ := setCells_read ((iv ws).drop i) (off + (i + 1)) w.drew cur hh (by omega)
        obtain ⟨c2, b1, b2, b3⟩ := setCells_read (iv [tx]) (off + i) _ c1 a1 (by rw [iv_len]; simp; omega)
        refine ⟨_, rfl, .inr ⟨g, off, cap, c2, by rw [insW_len], b1, by rw [insW_len]; exact hroom, h2, by omega, by omega, fun j v hj => ?_⟩, fun k hk => .inl hk, ?_⟩
        · rw [insW_at _ _ _ hi] at hj
          rw [b3, a3, iv_len]
          split at hj
          · rename_i h; rw [if_neg (by simp; omega), if_neg (by omega)]; exact h5 j v hj
          · split at hj
            · rename_i h; subst h; rw [if_pos (by simp)]; cases hj; simp [iv]
            · rename_i h6 h7
              have hjl := (List.getElem?_eq_some_iff.1 hj).1
              rw [if_neg (by simp; omega), if_pos (by rw [hdl]; omega), List.getElem?_drop, iv_get, show i + (off + j - (off + (i + 1))) = j - 1 by omega, hj]; rfl
        · have m1 : Moves (fun k => (Value.slice (some ⟨g, off, none⟩) ws.length cap).ownBlock = some k) w (w.drew.setCells g (off + (i + 1)) ((iv ws).drop i)) := ⟨by rw [setCells_os]; rfl, by rw [setCells_tape]; rfl, by rw [setCells_output]; rfl, by rw [size_setCells]; exact Nat.le_refl _, fun k _ hk => by rw [setCells_other (fun e => hk (by rw [e]; rfl))]; rfl⟩
          exact m1.trans ((moves_setCells (· = g) g rfl _ _ _).mono fun k e => by rw [e]; rfl) fun _ h => .inl h
      · obtain rfl : i = ws.length := by omega
        have hcl := Any2.slices_Insert_int_end_room Try.laysIns g off ws.length cap vb 0 1 1 (iv [tx]) w (by omega) hroom hbig rfl (fun j hj => by rw [Nat.add_assoc]; exact hsp _ (by omega)) (fun j _ => hfz _) hvs (iv_one _)
        change Calls Try.prog 60 _ _ _ at hcl
        refine hcl.mono ?_
        rintro e w' ⟨rfl, rfl⟩
        obtain ⟨c2, b1, b2, b3⟩ := setCells_read (iv [tx]) (off + ws.length) w cur hh (by rw [iv_len]; simp; omega)
        refine ⟨_, rfl, .inr ⟨g, off, cap, c2, by rw [insW_len], b1, by rw [insW_len]; exact hroom, h2, by omega, by omega, fun j v hj => ?_⟩, fun k hk => .inl hk, (moves_setCells (· = g) g rfl _ _ _).mono fun k e => by rw [e]; rfl⟩
        rw [insW_at _ _ _ hi] at hj
        rw [b3, iv_len]
        split at hj
        · rename_i h; rw [if_neg (by simp; omega)]; exact h5 j v hj
        · split at hj
          · rename_i h; subst h; rw [if_pos (by simp)]; cases hj; simp [iv]
          · rename_i h6 h7; rw [List.getElem?_eq_none (by omega)] at hj; cases hj
    · obtain rfl : cap = ws.length := by omega
      by_cases hlt : i < ws.length
      · have hcl := Any2.slices_Insert_int_grow Try.laysIns g off ws.length ws.length i vb 0 1 1 (iv ws) (iv [tx]) w hlt (by omega) (by omega) (by omega) (by omega) (iv_len _) rfl hcs hvs (iv_one _) (iv_one _)
        change Calls Try.prog 60 _ _ _ at hcl
        refine hcl.mono ?_
        rintro e w' ⟨rfl, rfl⟩
        have hG := grownCap_ge w (ws.length + 1) ws.length 3
        have hG2 := grownCap_le_maxLen w (ws.length + 1) ws.length 3 (by unfold maxLen; omega)
        change ws.length + 1 ≤ grownCap w (ws.length + 1) ws.length (Try.laysIns_ren.t 3) at hG
        change grownCap w (ws.length + 1) ws.length (Try.laysIns_ren.t 3) ≤ maxLen at hG2
        generalize grownCap w (ws.length + 1) ws.length (Try.laysIns_ren.t 3) = G at *
        have hdl : ((iv ws).drop i).length = ws.length - i := by rw [List.length_drop, iv_len]
        have htl : ((iv ws).take i).length = i := by rw [List.length_take, iv_len]; omega
        obtain ⟨C, hC⟩ : ∃ C, C = (((iv ws).take i).toArray ++ Builtin.zeroCells (Value.int .i64 0).cells (ws.length + 1 - i) ++ Builtin.zeroCells (Value.int .i64 0).cells (G - (ws.length + 1))) := ⟨_, rfl⟩
        have hCs : C.size = G := by rw [hC]; simp [zeros_size, iv]; omega
        have hCt : ∀ j, j < i → C[j]? = (iv ws)[j]? := fun j hj => by
          rw [hC, Array.append_assoc, Array.getElem?_append_left (by simp [iv]; omega)]
          simp [List.getElem?_take_of_lt hj]
        rw [← hC]
        clear hC
        obtain ⟨c1, a1, a2, a3⟩ := setCells_read (iv [tx]) i (w.alloc (.cells C (Try.laysIns_ren.t 3))).drew C (heap_alloc_new w _) (by rw [iv_len]; simp; omega)
        obtain ⟨c2, b1, b2, b3⟩ := setCells_read ((iv ws).drop i) (i + 1) ((w.alloc (.cells C (Try.laysIns_ren.t 3))).drew.setCells w.heap.size i (iv [tx])).drew c1 a1 (by omega)
        refine ⟨_, rfl, .inr ⟨w.heap.size, 0, G, c2, by rw [insW_len], b1, by rw [insW_len]; exact hG, hG2, by omega, by omega, fun j v hj => ?_⟩, fun k hk => .inr ?_, ?_⟩
        · rw [insW_at _ _ _ hi] at hj
          rw [Nat.zero_add, b3, a3, hdl, iv_len]
          split at hj
          · rename_i h; rw [if_neg (by omega), if_neg (by simp; omega), hCt j h, iv_get, hj]; rfl
          · split at hj
            · rename_i h; subst h; rw [if_neg (by omega), if_pos (by simp)]; cases hj; simp [iv]
            · rename_i h6 h7
              have hjl := (List.getElem?_eq_some_iff.1 hj).1
              rw [if_pos (by omega), List.getElem?_drop, iv_get, show i + (j - (i + 1)) = j - 1 by omega, hj]; rfl
        · simp only [Value.ownBlock, Option.some.injEq] at hk
          subst hk
          refine ⟨Nat.le_refl _, ?_⟩
          rw [size_setCells]
          show w.heap.size < (World.setCells _ _ _ _).heap.size
          rw [size_setCells]
          simp
        · refine ⟨by rw [setCells_os]; exact (setCells_os _ _ _ _).trans rfl, by rw [setCells_tape]; exact (setCells_tape _ _ _ _).trans rfl, by rw [setCells_output]; exact (setCells_output _ _ _ _).trans rfl, ?_, fun k hk _ => ?_⟩
          · rw [size_setCells]
            show _ ≤ (World.setCells _ _ _ _).heap.size
            rw [size_setCells]
            simp
          · rw [setCells_other (by omega)]
            show (World.setCells _ _ _ _).heap[k]? = _
            rw [setCells_other (by omega)]
            exact Below.heap_alloc w _ k hk
      · obtain rfl : i = ws.length := by omega
        exact hend (some ⟨g, off, none⟩) ws.length ws.length rfl (Nat.le_refl _) (by omega) rfl rfl (fun e => by cases e) (fun a ha j v hj => by cases ha; rw [Go.WideShapes.add_plain]; exact hcs j v hj)
set_option maxRecDepth 100000 in
theorem clo_queue (pb rb : Nat) (hv wv : Value) (hs : List (Int × Int)) (x : Int) (W : World) (c0 : W.cell? ⟨pb, 0, none⟩ = some (.pointer (some ⟨rb, 0, none⟩))) (hB : BoxR W rb hv wv) (h : HoldAt W hv hs) :
    Calls Try.prog 59 #[.int .i64 x, .pointer (some ⟨pb, 0, none⟩)] W fun e w' => e = .returned (.bool (howH hs x == 0)) ∧ Below W.heap.size W w' := by
  obtain ⟨q, hq⟩ : ∃ q, howH hs x = q := ⟨_, rfl⟩
  rw [hq]
  have H := Lib.hid h
  have a0 := hB.c0
  have a1 := hB.c1
  clear hB h
  go_enter Try.func59, Try.ntmps59
  go_wp2_with fail
  refine (how_any hv wv hs x q W H.out hq).mono ?_
  rintro e w' ⟨rfl, hb⟩
  go_wp2_with fail
  go_ret
  exact ⟨rfl, hb⟩
theorem entersQueue : ∀ args w, (callFunc 59 args).run Try.prog w = .ok (.enter 59 args) w := Go.Proofs.enters_of Try.func59 (by kernel_rfl) rfl
theorem pred_queue (pb rb : Nat) (hv wv : Value) (hs : List (Int × Int)) (ws : List Int) (w : World) (hp : pb < w.heap.size) (c0 : w.cell? ⟨pb, 0, none⟩ = some (.pointer (some ⟨rb, 0, none⟩))) (hB : BoxR w rb hv wv) (h : HoldAt w hv hs) :
    PredB 59 #[.pointer (some ⟨pb, 0, none⟩)] (Value.int .i64) (fun t => howH hs t == 0) ws w := fun W x _ hb =>
  (clo_queue pb rb hv wv hs x W ((hb.cell (p := ⟨pb, 0, none⟩) hp).trans c0) (hB.below hb) (h.below hb)).mono fun _ _ h => ⟨h.1, hb.trans (h.2.mono hb.size)⟩
/-- The call within queue. -/
theorem ins_in (rb : Nat) (hv : Value) (A : Option Addr) (c : Nat) (ws : List Int) (i : Nat) (tx : Int) (w : World) (hB : BoxR w rb hv (.slice A ws.length c)) (hw : WaitAt w (.slice A ws.length c) ws) (hne : (Value.slice A ws.length c).ownBlock ≠ some rb) (hi : i ≤ ws.length) (hl : ws.length ≤ 10000) (pb : Nat) (pv : Value) (hp : w.cell? ⟨pb, 0, none⟩ = some pv) (hpl : pb < w.heap.size) (hpn : (Value.slice A ws.length c).ownBlock ≠ some pb) :
    Calls Try.prog 60 #[.slice A ws.length c, .int .i64 (i : Nat), .slice (some ⟨w.heap.size, 0, none⟩) 1 1] ((w.alloc (.cells #[.int .i64 tx] 3)).drew) fun e w' => ∃ A2 n2 c2, e = .returned (.slice A2 n2 c2) ∧ w'.cell? ⟨rb, 1, none⟩ = some (.slice A ws.length c) ∧ w'.frozen? ⟨rb, 1, none⟩ = false ∧ rb < w'.heap.size ∧ w'.cell? ⟨pb, 0, none⟩ = some pv ∧
      Hid (BoxR w' rb hv (.slice A ws.length c) ∧ WaitAt w' (.slice A2 n2 c2) (insW ws i tx) ∧ (∀ k, (Value.slice A2 n2 c2).ownBlock = some k → (Value.slice A ws.length c).ownBlock = some k ∨ (w.heap.size ≤ k ∧ k < w'.heap.size)) ∧ Moves (fun k => (Value.slice A ws.length c).ownBlock = some k) w w') := by
  have b0 : Below w.heap.size w ((w.alloc (.cells #[.int .i64 tx] 3)).drew) := below_drewN ((Below.refl _ w).alloc (Nat.le_refl _) (.cells #[.int .i64 tx] 3)) 1
  refine (insert_any _ ws i tx w.heap.size _ (hw.below b0) hi (heap_alloc_new w _) (fun e => absurd (hw.lt _ e) (Nat.lt_irrefl _)) hl).mono ?_
  rintro e w2 ⟨wv', rfl, g1, g2, g3⟩
  obtain ⟨A2, c2, rfl⟩ := g1.isSlice
  have hB1 := hB.below b0
  have hB2 : BoxR w2 rb hv (.slice A ws.length c) := hB1.kept (g3.block rb hB1.lt hne)
  have hsz := b0.size
  have hm := (moves_of_below (F := fun k => (Value.slice A ws.length c).ownBlock = some k) b0).trans g3 fun _ h => .inl h
  exact ⟨_, _, _, rfl, hB2.c1, hB2.f0 1, hB2.lt, (World.cell?_of_block (a := ⟨pb, 0, none⟩) (hm.block pb hpl hpn)).trans hp, Lib.hid ⟨hB2, g1, fun k hk => (g2 k hk).imp id fun h => ⟨Nat.le_trans hsz h.1, h.2⟩, hm⟩⟩
theorem que_end (hv : Value) (A : Option Addr) (c : Nat) (hs : List (Int × Int)) (ws : List Int) (i : Nat) (tx : Int) (w w1 w2 : World) (rb : Nat) (A2 : Option Addr) (n2 c2 : Nat) (hat : queueAt hs ws tx = i) (hb : Below w.heap.size w w1)
    (R : BoxR w2 rb hv (.slice A ws.length c) ∧ WaitAt w2 (.slice A2 n2 c2) (insW ws i tx) ∧ (∀ k, (Value.slice A2 n2 c2).ownBlock = some k → (Value.slice A ws.length c).ownBlock = some k ∨ (w1.heap.size ≤ k ∧ k < w2.heap.size)) ∧ Moves (fun k => (Value.slice A ws.length c).ownBlock = some k) w1 w2) (hne : (Value.slice A ws.length c).ownBlock ≠ some rb) (hlt : rb < w.heap.size) :
    NewW w rb hv (.slice A ws.length c) (queueW hs ws tx) (.returned (.tuple #[])) (w2.setCell ⟨rb, 1, none⟩ (.slice A2 n2 c2)) := by
  obtain ⟨r1, r2, r3, r4⟩ := R
  have hs1 := hb.size
  have hs2 := r4.size
  refine ⟨rfl, _, r1.set1 _, ?_, fun k hk => (r3 k hk).imp id fun h => ⟨by omega, by simp; omega⟩, ?_⟩
  · have e : queueW hs ws tx = insW ws i tx := by unfold queueW insW; rw [hat]
    rw [e]
    refine r2.kept fun k hk => Below.heap_setCell _ _ _ k (fun e => ?_)
    have e : k = rb := e
    rcases r3 k hk with h | h
    · exact hne (by rw [h, e])
    · omega
  · have m0 : Moves (fun k => k = rb ∨ (Value.slice A ws.length c).ownBlock = some k) w w1 := moves_of_below hb
    exact (m0.trans (r4.mono fun k hk => .inr hk) fun _ h => .inl h).trans (moves_setCell (fun k => k = rb ∨ (Value.slice A ws.length c).ownBlock = some k) w2 ⟨rb, 1, none⟩ _ (.inl rfl)) fun _ h => .inl h
set_option maxRecDepth 100000 in
set_option maxHeartbeats 1000000 in
theorem queue_any (rb : Nat) (hv wv : Value) (hs : List (Int × Int)) (ws : List Int) (tx : Int) (w : World) (hB : BoxR w rb hv wv) (h : HoldAt w hv hs) (hw : WaitAt w wv ws) (hne : wv.ownBlock ≠ some rb) (hl : ws.length ≤ 10000) :
    Calls Try.prog 39 #[.pointer (some ⟨rb, 0, none⟩), .int .i64 tx] w (NewW w rb hv wv (queueW hs ws tx)) := by
  have H := Lib.hid h
  have HW := Lib.hid hw
  have HB := Lib.hid hB
  have HN := Lib.hid hne
  have a0 := hB.c0
  have a1 := hB.c1
  have hlt := hB.lt
  clear h hB hne hw
  go_enter Try.func39, Try.ntmps39
  obtain ⟨at_, hat⟩ : ∃ q, queueAt hs ws tx = q := ⟨_, rfl⟩
  obtain ⟨q, hq⟩ : ∃ q, howH hs tx = q := ⟨_, rfl⟩
  have hq2 := hat
  unfold queueAt at hq2
  rw [hq] at hq2
  have hle : at_ ≤ ws.length := by
    rw [← hq2]
    split
    · exact Nat.le_refl _
    · exact placeOf_le _ _
  have HAT := Lib.hid hat
  clear hat
  obtain ⟨A, c, rfl⟩ := HW.out.isSlice
  have b1 : Below w.heap.size w (w.alloc (Obj.cells #[Value.pointer (some { block := rb, off := 0 })] 89)) := (Below.refl _ w).alloc (Nat.le_refl _) _
  have B1 := Lib.hid b1
  clear b1
  go_wp2_with fail
  refine (how_any hv _ hs tx q _ (H.out.below B1.out) hq).mono ?_
  rintro e w1 ⟨rfl, hb1⟩
  have B2 := Lib.hid (B1.out.trans (hb1.mono B1.out.size))
  have p0 : w1.cell? ⟨w.heap.size, 0, none⟩ = some (.pointer (some ⟨rb, 0, none⟩)) := by rw [hb1.cell (p := ⟨w.heap.size, 0, none⟩) (by simp)]; simp
  have HB1 := Lib.hid (HB.out.below B2.out)
  have HH1 := Lib.hid (H.out.below B2.out)
  have HW1 := Lib.hid (HW.out.below B2.out)
  have d0 := HB1.out.c0
  have d1 := HB1.out.c1
  have hlt1 := HB1.out.lt
  have hs1 : w.heap.size < w1.heap.size := by have := hb1.size; simp at this; omega
  clear hb1 a0 a1 hlt
  by_cases h0 : q = 0
  · rw [if_pos h0] at hq2
    have hd : (q != 0) = false := by simp [h0]
    clear h0 hq
    subst hq2
    go_wp2_with fail
    have hcall := ins_in rb hv A c ws ws.length tx w1 HB1.out HW1.out HN.out hle hl w.heap.size _ p0 hs1 (fun e => absurd (HW.out.lt _ e) (Nat.lt_irrefl _))
    have hS1 : ∀ o : Obj, (w1.alloc o).drew.cell? ⟨w.heap.size, 0, none⟩ = some (.pointer (some ⟨rb, 0, none⟩)) := fun o => (World.cell?_alloc_lt w1 o ⟨w.heap.size, 0, none⟩ hs1).trans p0
    have hne2 : w.heap.size ≠ rb := fun e => by have := HB.out.lt; omega
    refine wp_region_noPanic ?_
    refine wp_region_held_drew (S := fun w' => w'.cell? ⟨w.heap.size, 0, none⟩ = some (.pointer (some ⟨rb, 0, none⟩))) (by kernel_rfl) p0 (fun hHeld => ?_)
    refine wpAnyH_take (i := 0) (oi := ⟨some 24, _, _, _, _, _⟩) (v := .pointer (some ⟨rb, 0, none⟩)) rfl (by kernel_rfl) (by kernel_rfl) (by kernel_rfl) (fun _ _ _ h => h) (Or.inl ⟨by rfl, by intro w hSw; go_simp; (try with_reducible rfl)⟩) (by assumption) ?_
    simp only [Act.put, List.setIfInBounds_toArray, List.set_cons_zero, List.set_cons_succ]
    refine wpAnyH_take (i := 1) (oi := ⟨some 25, _, _, _, _, _⟩) (v := .pointer (some ⟨rb, 0, none⟩)) rfl (by kernel_rfl) (by kernel_rfl) (by kernel_rfl) (fun _ _ _ h => h) (Or.inl ⟨by rfl, by intro w hSw; go_simp; (try with_reducible rfl)⟩) (by assumption) ?_
    simp only [Act.put, List.setIfInBounds_toArray, List.set_cons_zero, List.set_cons_succ]
    refine wpAnyH_take (i := 2) (oi := ⟨some 26, _, _, _, _, _⟩) (v := .pointer (some ⟨rb, 0, none⟩)) rfl (by kernel_rfl) (by kernel_rfl) (by kernel_rfl) (fun _ _ _ h => h) (Or.inl ⟨by rfl, by intro w hSw; go_simp; (try with_reducible rfl)⟩) (by assumption) ?_
    simp only [Act.put, List.setIfInBounds_toArray, List.set_cons_zero, List.set_cons_succ]
    refine wpAnyH_take (i := 3) (oi := ⟨some 27, _, _, _, _, _⟩) (v := .pointer (some ⟨rb, 1, none⟩)) rfl (by kernel_rfl) (by kernel_rfl) (by kernel_rfl) (fun _ _ _ h => h) (Or.inl ⟨by rfl, by intro w hSw; go_simp; (try with_reducible rfl)⟩) (by assumption) ?_
    simp only [Act.put, List.setIfInBounds_toArray, List.set_cons_zero, List.set_cons_succ]
    refine wpAnyH_take (i := 5) (oi := ⟨some 29, _, _, _, _, _⟩) (v := .int .i64 ((ws.length : Nat) : Int)) rfl (by kernel_rfl) (by kernel_rfl) (by kernel_rfl) (fun _ _ _ h => h) (Or.inl ⟨by rfl, by intro w hSw; go_simp; (try with_reducible rfl)⟩) (by assumption) ?_
    simp only [Act.put, List.setIfInBounds_toArray, List.set_cons_zero, List.set_cons_succ]
    refine wpAnyH_take (i := 6) (oi := ⟨some 30, _, _, _, _, _⟩) (v := .int .i64 tx) rfl (by kernel_rfl) (by kernel_rfl) (by kernel_rfl) (fun _ _ _ h => h) (Or.inl ⟨by rfl, by intro w hSw; go_simp; (try with_reducible rfl)⟩) (by assumption) ?_
    simp only [Act.put, List.setIfInBounds_toArray, List.set_cons_zero, List.set_cons_succ]
    refine wpAnyH_ready (rs := [4, 7]) (by kernel_rfl) (by simp) ?_
    refine AllReadyH.cons (o := ⟨some 28, _, _, _, _, _⟩) rfl (fun K hK => ?_) (AllReadyH.cons (o := ⟨some 31, _, _, _, _, _⟩) rfl (fun K hK => ?_) AllReadyH.nil)
    · go_simp
      refine hK.out _ _ ?_ (fun hHeld => ?_)
      · exact hHeld
      clear hK K
      try simp only [Act.put, List.setIfInBounds_toArray, List.set_cons_zero, List.set_cons_succ]
      refine wpAnyH_ready (rs := [7]) (by kernel_rfl) (by simp) ?_
      refine AllReadyH.cons (o := ⟨some 31, _, _, _, _, _⟩) rfl (fun K hK => ?_) AllReadyH.nil
      go_simp
      refine hK.out _ _ ?_ (fun hHeld => ?_)
      · exact hS1 _
      clear hK K
      try simp only [Act.put, List.setIfInBounds_toArray, List.set_cons_zero, List.set_cons_succ]
      refine wpAnyH_ready (rs := [8]) (by kernel_rfl) (by simp) ?_
      refine AllReadyH.cons (o := ⟨some 32, _, _, _, _, _⟩) rfl (fun K hK => ?_) AllReadyH.nil
      go_simp
      go_at_call 60
      refine hcall.mono ?_
      rintro e w2 ⟨A2, n2, c2, rfl, k1, k2, k3, k4, R⟩
      refine hK.out _ _ ?_ (fun hHeld => ?_)
      · exact k4
      clear hK K
      try simp only [Act.put, List.setIfInBounds_toArray, List.set_cons_zero, List.set_cons_succ]
      refine wpAnyH_take (i := 9) (oi := ⟨some 33, _, _, _, _, _⟩) (v := .pointer (some ⟨rb, 0, none⟩)) rfl (by kernel_rfl) (by kernel_rfl) (by kernel_rfl) (fun _ _ _ h => h) (Or.inl ⟨by rfl, by intro w hSw; go_simp; (try with_reducible rfl)⟩) (by assumption) ?_
      simp only [Act.put, List.setIfInBounds_toArray, List.set_cons_zero, List.set_cons_succ]
      refine wpAnyH_take (i := 10) (oi := ⟨some 34, _, _, _, _, _⟩) (v := .pointer (some ⟨rb, 1, none⟩)) rfl (by kernel_rfl) (by kernel_rfl) (by kernel_rfl) (fun _ _ _ h => h) (Or.inl ⟨by rfl, by intro w hSw; go_simp; (try with_reducible rfl)⟩) (by assumption) ?_
      simp only [Act.put, List.setIfInBounds_toArray, List.set_cons_zero, List.set_cons_succ]
      refine wpAnyH_ready (rs := [11]) (by kernel_rfl) (by simp) ?_
      refine AllReadyH.cons (o := ⟨none, _, _, _, _, _⟩) rfl (fun K hK => ?_) AllReadyH.nil
      go_simp
      refine hK.out _ _ ?_ (fun hHeld => ?_)
      · rw [World.cell?_setCell_other _ _ _ _ (by simp)]; exact k4
      clear hK K
      try simp only [Act.put, List.setIfInBounds_toArray, List.set_cons_zero, List.set_cons_succ]
      refine wpAnyH_done (by kernel_rfl) ?_ _
      refine NoPanic.normal ?_
      try simp only [Exit.inBlock, Exit.then]
      go_end0
      exact que_end hv A c hs ws ws.length tx w w1 w2 rb A2 n2 c2 HAT.out B2.out R.out HN.out HB.out.lt
    · go_simp
      refine hK.out _ _ ?_ (fun hHeld => ?_)
      · exact hS1 _
      clear hK K
      try simp only [Act.put, List.setIfInBounds_toArray, List.set_cons_zero, List.set_cons_succ]
      refine wpAnyH_ready (rs := [4]) (by kernel_rfl) (by simp) ?_
      refine AllReadyH.cons (o := ⟨some 28, _, _, _, _, _⟩) rfl (fun K hK => ?_) AllReadyH.nil
      go_simp
      refine hK.out _ _ ?_ (fun hHeld => ?_)
      · exact hS1 _
      clear hK K
      try simp only [Act.put, List.setIfInBounds_toArray, List.set_cons_zero, List.set_cons_succ]
      refine wpAnyH_ready (rs := [8]) (by kernel_rfl) (by simp) ?_
      refine AllReadyH.cons (o := ⟨some 32, _, _, _, _, _⟩) rfl (fun K hK => ?_) AllReadyH.nil
      go_simp
      go_at_call 60
      refine hcall.mono ?_
      rintro e w2 ⟨A2, n2, c2, rfl, k1, k2, k3, k4, R⟩
      refine hK.out _ _ ?_ (fun hHeld => ?_)
      · exact k4
      clear hK K
      try simp only [Act.put, List.setIfInBounds_toArray, List.set_cons_zero, List.set_cons_succ]
      refine wpAnyH_take (i := 9) (oi := ⟨some 33, _, _, _, _, _⟩) (v := .pointer (some ⟨rb, 0, none⟩)) rfl (by kernel_rfl) (by kernel_rfl) (by kernel_rfl) (fun _ _ _ h => h) (Or.inl ⟨by rfl, by intro w hSw; go_simp; (try with_reducible rfl)⟩) (by assumption) ?_
      simp only [Act.put, List.setIfInBounds_toArray, List.set_cons_zero, List.set_cons_succ]
      refine wpAnyH_take (i := 10) (oi := ⟨some 34, _, _, _, _, _⟩) (v := .pointer (some ⟨rb, 1, none⟩)) rfl (by kernel_rfl) (by kernel_rfl) (by kernel_rfl) (fun _ _ _ h => h) (Or.inl ⟨by rfl, by intro w hSw; go_simp; (try with_reducible rfl)⟩) (by assumption) ?_
      simp only [Act.put, List.setIfInBounds_toArray, List.set_cons_zero, List.set_cons_succ]
      refine wpAnyH_ready (rs := [11]) (by kernel_rfl) (by simp) ?_
      refine AllReadyH.cons (o := ⟨none, _, _, _, _, _⟩) rfl (fun K hK => ?_) AllReadyH.nil
      go_simp
      refine hK.out _ _ ?_ (fun hHeld => ?_)
      · rw [World.cell?_setCell_other _ _ _ _ (by simp)]; exact k4
      clear hK K
      try simp only [Act.put, List.setIfInBounds_toArray, List.set_cons_zero, List.set_cons_succ]
      refine wpAnyH_done (by kernel_rfl) ?_ _
      refine NoPanic.normal ?_
      try simp only [Exit.inBlock, Exit.then]
      go_end0
      exact que_end hv A c hs ws ws.length tx w w1 w2 rb A2 n2 c2 HAT.out B2.out R.out HN.out HB.out.lt
  · rw [if_neg h0] at hq2
    have hd : (q != 0) = true := by simp [h0]
    clear h0 hq
    go_wp2_with fail
    have hidx := idx_ints (.slice A ws.length c) ws (fun t => howH hs t == 0) 59 #[.pointer (some ⟨w.heap.size, 0, none⟩)] entersQueue _ w1 HW1.out (pred_queue w.heap.size rb hv _ hs ws w1 hs1 p0 HB1.out HH1.out) rfl
    unfold idxF at hidx
    by_cases hf : placeOf (fun t => howH hs t == 0) ws < ws.length
    · rw [if_pos hf, hq2] at hidx
      rw [hq2] at hf
      clear hq2 hf
      refine hidx.mono ?_
      rintro e w1 ⟨rfl, hb1'⟩
      have B2 := Lib.hid (B2.out.trans (hb1'.mono B2.out.size))
      have p0 : w1.cell? ⟨w.heap.size, 0, none⟩ = some (.pointer (some ⟨rb, 0, none⟩)) := (hb1'.cell (p := ⟨w.heap.size, 0, none⟩) hs1).trans p0
      have HB1 := Lib.hid (HB1.out.below hb1')
      have HH1 := Lib.hid (HH1.out.below hb1')
      have HW1 := Lib.hid (HW1.out.below hb1')
      have hs1 : w.heap.size < w1.heap.size := Nat.lt_of_lt_of_le hs1 hb1'.size
      clear hb1'
      have d0 := HB1.out.c0
      have d1 := HB1.out.c1
      have hlt1 := HB1.out.lt
      go_wp2_with fail
      have hcall := ins_in rb hv A c ws at_ tx w1 HB1.out HW1.out HN.out hle hl w.heap.size _ p0 hs1 (fun e => absurd (HW.out.lt _ e) (Nat.lt_irrefl _))
      have hS1 : ∀ o : Obj, (w1.alloc o).drew.cell? ⟨w.heap.size, 0, none⟩ = some (.pointer (some ⟨rb, 0, none⟩)) := fun o => (World.cell?_alloc_lt w1 o ⟨w.heap.size, 0, none⟩ hs1).trans p0
      have hne2 : w.heap.size ≠ rb := fun e => by have := HB.out.lt; omega
      refine wp_region_noPanic ?_
      refine wp_region_held_drew (S := fun w' => w'.cell? ⟨w.heap.size, 0, none⟩ = some (.pointer (some ⟨rb, 0, none⟩))) (by kernel_rfl) p0 (fun hHeld => ?_)
      refine wpAnyH_take (i := 0) (oi := ⟨some 24, _, _, _, _, _⟩) (v := .pointer (some ⟨rb, 0, none⟩)) rfl (by kernel_rfl) (by kernel_rfl) (by kernel_rfl) (fun _ _ _ h => h) (Or.inl ⟨by rfl, by intro w hSw; go_simp; (try with_reducible rfl)⟩) (by assumption) ?_
      simp only [Act.put, List.setIfInBounds_toArray, List.set_cons_zero, List.set_cons_succ]
      refine wpAnyH_take (i := 1) (oi := ⟨some 25, _, _, _, _, _⟩) (v := .pointer (some ⟨rb, 0, none⟩)) rfl (by kernel_rfl) (by kernel_rfl) (by kernel_rfl) (fun _ _ _ h => h) (Or.inl ⟨by rfl, by intro w hSw; go_simp; (try with_reducible rfl)⟩) (by assumption) ?_
      simp only [Act.put, List.setIfInBounds_toArray, List.set_cons_zero, List.set_cons_succ]
      refine wpAnyH_take (i := 2) (oi := ⟨some 26, _, _, _, _, _⟩) (v := .pointer (some ⟨rb, 0, none⟩)) rfl (by kernel_rfl) (by kernel_rfl) (by kernel_rfl) (fun _ _ _ h => h) (Or.inl ⟨by rfl, by intro w hSw; go_simp; (try with_reducible rfl)⟩) (by assumption) ?_
      simp only [Act.put, List.setIfInBounds_toArray, List.set_cons_zero, List.set_cons_succ]
      refine wpAnyH_take (i := 3) (oi := ⟨some 27, _, _, _, _, _⟩) (v := .pointer (some ⟨rb, 1, none⟩)) rfl (by kernel_rfl) (by kernel_rfl) (by kernel_rfl) (fun _ _ _ h => h) (Or.inl ⟨by rfl, by intro w hSw; go_simp; (try with_reducible rfl)⟩) (by assumption) ?_
      simp only [Act.put, List.setIfInBounds_toArray, List.set_cons_zero, List.set_cons_succ]
      refine wpAnyH_take (i := 5) (oi := ⟨some 29, _, _, _, _, _⟩) (v := .int .i64 ((at_ : Nat) : Int)) rfl (by kernel_rfl) (by kernel_rfl) (by kernel_rfl) (fun _ _ _ h => h) (Or.inl ⟨by rfl, by intro w hSw; go_simp; (try with_reducible rfl)⟩) (by assumption) ?_
      simp only [Act.put, List.setIfInBounds_toArray, List.set_cons_zero, List.set_cons_succ]
      refine wpAnyH_take (i := 6) (oi := ⟨some 30, _, _, _, _, _⟩) (v := .int .i64 tx) rfl (by kernel_rfl) (by kernel_rfl) (by kernel_rfl) (fun _ _ _ h => h) (Or.inl ⟨by rfl, by intro w hSw; go_simp; (try with_reducible rfl)⟩) (by assumption) ?_
      simp only [Act.put, List.setIfInBounds_toArray, List.set_cons_zero, List.set_cons_succ]
      refine wpAnyH_ready (rs := [4, 7]) (by kernel_rfl) (by simp) ?_
      refine AllReadyH.cons (o := ⟨some 28, _, _, _, _, _⟩) rfl (fun K hK => ?_) (AllReadyH.cons (o := ⟨some 31, _, _, _, _, _⟩) rfl (fun K hK => ?_) AllReadyH.nil)
      · go_simp
        refine hK.out _ _ ?_ (fun hHeld => ?_)
        · exact hHeld
        clear hK K
        try simp only [Act.put, List.setIfInBounds_toArray, List.set_cons_zero, List.set_cons_succ]
        refine wpAnyH_ready (rs := [7]) (by kernel_rfl) (by simp) ?_
        refine AllReadyH.cons (o := ⟨some 31, _, _, _, _, _⟩) rfl (fun K hK => ?_) AllReadyH.nil
        go_simp
        refine hK.out _ _ ?_ (fun hHeld => ?_)
        · exact hS1 _
        clear hK K
        try simp only [Act.put, List.setIfInBounds_toArray, List.set_cons_zero, List.set_cons_succ]
        refine wpAnyH_ready (rs := [8]) (by kernel_rfl) (by simp) ?_
        refine AllReadyH.cons (o := ⟨some 32, _, _, _, _, _⟩) rfl (fun K hK => ?_) AllReadyH.nil
        go_simp
        go_at_call 60
        refine hcall.mono ?_
        rintro e w2 ⟨A2, n2, c2, rfl, k1, k2, k3, k4, R⟩
        refine hK.out _ _ ?_ (fun hHeld => ?_)
        · exact k4
        clear hK K
        try simp only [Act.put, List.setIfInBounds_toArray, List.set_cons_zero, List.set_cons_succ]
        refine wpAnyH_take (i := 9) (oi := ⟨some 33, _, _, _, _, _⟩) (v := .pointer (some ⟨rb, 0, none⟩)) rfl (by kernel_rfl) (by kernel_rfl) (by kernel_rfl) (fun _ _ _ h => h) (Or.inl ⟨by rfl, by intro w hSw; go_simp; (try with_reducible rfl)⟩) (by assumption) ?_
        simp only [Act.put, List.setIfInBounds_toArray, List.set_cons_zero, List.set_cons_succ]
        refine wpAnyH_take (i := 10) (oi := ⟨some 34, _, _, _, _, _⟩) (v := .pointer (some ⟨rb, 1, none⟩)) rfl (by kernel_rfl) (by kernel_rfl) (by kernel_rfl) (fun _ _ _ h => h) (Or.inl ⟨by rfl, by intro w hSw; go_simp; (try with_reducible rfl)⟩) (by assumption) ?_
        simp only [Act.put, List.setIfInBounds_toArray, List.set_cons_zero, List.set_cons_succ]
        refine wpAnyH_ready (rs := [11]) (by kernel_rfl) (by simp) ?_
        refine AllReadyH.cons (o := ⟨none, _, _, _, _, _⟩) rfl (fun K hK => ?_) AllReadyH.nil
        go_simp
        refine hK.out _ _ ?_ (fun hHeld => ?_)
        · rw [World.cell?_setCell_other _ _ _ _ (by simp)]; exact k4
        clear hK K
        try simp only [Act.put, List.setIfInBounds_toArray, List.set_cons_zero, List.set_cons_succ]
        refine wpAnyH_done (by kernel_rfl) ?_ _
        refine NoPanic.normal ?_
        try simp only [Exit.inBlock, Exit.then]
        go_end0
        exact que_end hv A c hs ws at_ tx w w1 w2 rb A2 n2 c2 HAT.out B2.out R.out HN.out HB.out.lt
      · go_simp
        refine hK.out _ _ ?_ (fun hHeld => ?_)
        · exact hS1 _
        clear hK K
        try simp only [Act.put, List.setIfInBounds_toArray, List.set_cons_zero, List.set_cons_succ]
        refine wpAnyH_ready (rs := [4]) (by kernel_rfl) (by simp) ?_
        refine AllReadyH.cons (o := ⟨some 28, _, _, _, _, _⟩) rfl (fun K hK => ?_) AllReadyH.nil
        go_simp
        refine hK.out _ _ ?_ (fun hHeld => ?_)
        · exact hS1 _
        clear hK K
        try simp only [Act.put, List.setIfInBounds_toArray, List.set_cons_zero, List.set_cons_succ]
        refine wpAnyH_ready (rs := [8]) (by kernel_rfl) (by simp) ?_
        refine AllReadyH.cons (o := ⟨some 32, _, _, _, _, _⟩) rfl (fun K hK => ?_) AllReadyH.nil
        go_simp
        go_at_call 60
        refine hcall.mono ?_
        rintro e w2 ⟨A2, n2, c2, rfl, k1, k2, k3, k4, R⟩
        refine hK.out _ _ ?_ (fun hHeld => ?_)
        · exact k4
        clear hK K
        try simp only [Act.put, List.setIfInBounds_toArray, List.set_cons_zero, List.set_cons_succ]
        refine wpAnyH_take (i := 9) (oi := ⟨some 33, _, _, _, _, _⟩) (v := .pointer (some ⟨rb, 0, none⟩)) rfl (by kernel_rfl) (by kernel_rfl) (by kernel_rfl) (fun _ _ _ h => h) (Or.inl ⟨by rfl, by intro w hSw; go_simp; (try with_reducible rfl)⟩) (by assumption) ?_
        simp only [Act.put, List.setIfInBounds_toArray, List.set_cons_zero, List.set_cons_succ]
        refine wpAnyH_take (i := 10) (oi := ⟨some 34, _, _, _, _, _⟩) (v := .pointer (some ⟨rb, 1, none⟩)) rfl (by kernel_rfl) (by kernel_rfl) (by kernel_rfl) (fun _ _ _ h => h) (Or.inl ⟨by rfl, by intro w hSw; go_simp; (try with_reducible rfl)⟩) (by assumption) ?_
        simp only [Act.put, List.setIfInBounds_toArray, List.set_cons_zero, List.set_cons_succ]
        refine wpAnyH_ready (rs := [11]) (by kernel_rfl) (by simp) ?_
        refine AllReadyH.cons (o := ⟨none, _, _, _, _, _⟩) rfl (fun K hK => ?_) AllReadyH.nil
        go_simp
        refine hK.out _ _ ?_ (fun hHeld => ?_)
        · rw [World.cell?_setCell_other _ _ _ _ (by simp)]; exact k4
        clear hK K
        try simp only [Act.put, List.setIfInBounds_toArray, List.set_cons_zero, List.set_cons_succ]
        refine wpAnyH_done (by kernel_rfl) ?_ _
        refine NoPanic.normal ?_
        try simp only [Exit.inBlock, Exit.then]
        go_end0
        exact que_end hv A c hs ws at_ tx w w1 w2 rb A2 n2 c2 HAT.out B2.out R.out HN.out HB.out.lt
    · rw [if_neg hf] at hidx
      have hel : at_ = ws.length := by have := placeOf_le (fun t => howH hs t == 0) ws; omega
      clear hq2 hf
      subst hel
      refine hidx.mono ?_
      rintro e w1 ⟨rfl, hb1'⟩
      have B2 := Lib.hid (B2.out.trans (hb1'.mono B2.out.size))
      have p0 : w1.cell? ⟨w.heap.size, 0, none⟩ = some (.pointer (some ⟨rb, 0, none⟩)) := (hb1'.cell (p := ⟨w.heap.size, 0, none⟩) hs1).trans p0
      have HB1 := Lib.hid (HB1.out.below hb1')
      have HH1 := Lib.hid (HH1.out.below hb1')
      have HW1 := Lib.hid (HW1.out.below hb1')
      have hs1 : w.heap.size < w1.heap.size := Nat.lt_of_lt_of_le hs1 hb1'.size
      clear hb1'
      have d0 := HB1.out.c0
      have d1 := HB1.out.c1
      have hlt1 := HB1.out.lt
      go_wp2_with fail
      have hcall := ins_in rb hv A c ws ws.length tx w1 HB1.out HW1.out HN.out hle hl w.heap.size _ p0 hs1 (fun e => absurd (HW.out.lt _ e) (Nat.lt_irrefl _))
      have hS1 : ∀ o : Obj, (w1.alloc o).drew.cell? ⟨w.heap.size, 0, none⟩ = some (.pointer (some ⟨rb, 0, none⟩)) := fun o => (World.cell?_alloc_lt w1 o ⟨w.heap.size, 0, none⟩ hs1).trans p0
      have hne2 : w.heap.size ≠ rb := fun e => by have := HB.out.lt; omega
      refine wp_region_noPanic ?_
      refine wp_region_held_drew (S := fun w' => w'.cell? ⟨w.heap.size, 0, none⟩ = some (.pointer (some ⟨rb, 0, none⟩))) (by kernel_rfl) p0 (fun hHeld => ?_)
      refine wpAnyH_take (i := 0) (oi := ⟨some 24, _, _, _, _, _⟩) (v := .pointer (some ⟨rb, 0, none⟩)) rfl (by kernel_rfl) (by kernel_rfl) (by kernel_rfl) (fun _ _ _ h => h) (Or.inl ⟨by rfl, by intro w hSw; go_simp; (try with_reducible rfl)⟩) (by assumption) ?_
      simp only [Act.put, List.setIfInBounds_toArray, List.set_cons_zero, List.set_cons_succ]
      refine wpAnyH_take (i := 1) (oi := ⟨some 25, _, _, _, _, _⟩) (v := .pointer (some ⟨rb, 0, none⟩)) rfl (by kernel_rfl) (by kernel_rfl) (by kernel_rfl) (fun _ _ _ h => h) (Or.inl ⟨by rfl, by intro w hSw; go_simp; (try with_reducible rfl)⟩) (by assumption) ?_
      simp only [Act.put, List.setIfInBounds_toArray, List.set_cons_zero, List.set_cons_succ]
      refine wpAnyH_take (i := 2) (oi := ⟨some 26, _, _, _, _, _⟩) (v := .pointer (some ⟨rb, 0, none⟩)) rfl (by kernel_rfl) (by kernel_rfl) (by kernel_rfl) (fun _ _ _ h => h) (Or.inl ⟨by rfl, by intro w hSw; go_simp; (try with_reducible rfl)⟩) (by assumption) ?_
      simp only [Act.put, List.setIfInBounds_toArray, List.set_cons_zero, List.set_cons_succ]
      refine wpAnyH_take (i := 3) (oi := ⟨some 27, _, _, _, _, _⟩) (v := .pointer (some ⟨rb, 1, none⟩)) rfl (by kernel_rfl) (by kernel_rfl) (by kernel_rfl) (fun _ _ _ h => h) (Or.inl ⟨by rfl, by intro w hSw; go_simp; (try with_reducible rfl)⟩) (by assumption) ?_
      simp only [Act.put, List.setIfInBounds_toArray, List.set_cons_zero, List.set_cons_succ]
      refine wpAnyH_take (i := 5) (oi := ⟨some 29, _, _, _, _, _⟩) (v := .int .i64 ((ws.length : Nat) : Int)) rfl (by kernel_rfl) (by kernel_rfl) (by kernel_rfl) (fun _ _ _ h => h) (Or.inl ⟨by rfl, by intro w hSw; go_simp; (try with_reducible rfl)⟩) (by assumption) ?_
      simp only [Act.put, List.setIfInBounds_toArray, List.set_cons_zero, List.set_cons_succ]
      refine wpAnyH_take (i := 6) (oi := ⟨some 30, _, _, _, _, _⟩) (v := .int .i64 tx) rfl (by kernel_rfl) (by kernel_rfl) (by kernel_rfl) (fun _ _ _ h => h) (Or.inl ⟨by rfl, by intro w hSw; go_simp; (try with_reducible rfl)⟩) (by assumption) ?_
      simp only [Act.put, List.setIfInBounds_toArray, List.set_cons_zero, List.set_cons_succ]
      refine wpAnyH_ready (rs := [4, 7]) (by kernel_rfl) (by simp) ?_
      refine AllReadyH.cons (o := ⟨some 28, _, _, _, _, _⟩) rfl (fun K hK => ?_) (AllReadyH.cons (o := ⟨some 31, _, _, _, _, _⟩) rfl (fun K hK => ?_) AllReadyH.nil)
      · go_simp
        refine hK.out _ _ ?_ (fun hHeld => ?_)
        · exact hHeld
        clear hK K
        try simp only [Act.put, List.setIfInBounds_toArray, List.set_cons_zero, List.set_cons_succ]
        refine wpAnyH_ready (rs := [7]) (by kernel_rfl) (by simp) ?_
        refine AllReadyH.cons (o := ⟨some 31, _, _, _, _, _⟩) rfl (fun K hK => ?_) AllReadyH.nil
        go_simp
        refine hK.out _ _ ?_ (fun hHeld => ?_)
        · exact hS1 _
        clear hK K
        try simp only [Act.put, List.setIfInBounds_toArray, List.set_cons_zero, List.set_cons_succ]
        refine wpAnyH_ready (rs := [8]) (by kernel_rfl) (by simp) ?_
        refine AllReadyH.cons (o := ⟨some 32, _, _, _, _, _⟩) rfl (fun K hK => ?_) AllReadyH.nil
        go_simp
        go_at_call 60
        refine hcall.mono ?_
        rintro e w2 ⟨A2, n2, c2, rfl, k1, k2, k3, k4, R⟩
        refine hK.out _ _ ?_ (fun hHeld => ?_)
        · exact k4
        clear hK K
        try simp only [Act.put, List.setIfInBounds_toArray, List.set_cons_zero, List.set_cons_succ]
        refine wpAnyH_take (i := 9) (oi := ⟨some 33, _, _, _, _, _⟩) (v := .pointer (some ⟨rb, 0, none⟩)) rfl (by kernel_rfl) (by kernel_rfl) (by kernel_rfl) (fun _ _ _ h => h) (Or.inl ⟨by rfl, by intro w hSw; go_simp; (try with_reducible rfl)⟩) (by assumption) ?_
        simp only [Act.put, List.setIfInBounds_toArray, List.set_cons_zero, List.set_cons_succ]
        refine wpAnyH_take (i := 10) (oi := ⟨some 34, _, _, _, _, _⟩) (v := .pointer (some ⟨rb, 1, none⟩)) rfl (by kernel_rfl) (by kernel_rfl) (by kernel_rfl) (fun _ _ _ h => h) (Or.inl ⟨by rfl, by intro w hSw; go_simp; (try with_reducible rfl)⟩) (by assumption) ?_
        simp only [Act.put, List.setIfInBounds_toArray, List.set_cons_zero, List.set_cons_succ]
        refine wpAnyH_ready (rs := [11]) (by kernel_rfl) (by simp) ?_
        refine AllReadyH.cons (o := ⟨none, _, _, _, _, _⟩) rfl (fun K hK => ?_) AllReadyH.nil
        go_simp
        refine hK.out _ _ ?_ (fun hHeld => ?_)
        · rw [World.cell?_setCell_other _ _ _ _ (by simp)]; exact k4
        clear hK K
        try simp only [Act.put, List.setIfInBounds_toArray, List.set_cons_zero, List.set_cons_succ]
        refine wpAnyH_done (by kernel_rfl) ?_ _
        refine NoPanic.normal ?_
        try simp only [Exit.inBlock, Exit.then]
        go_end0
        exact que_end hv A c hs ws ws.length tx w w1 w2 rb A2 n2 c2 HAT.out B2.out R.out HN.out HB.out.lt
      · go_simp
        refine hK.out _ _ ?_ (fun hHeld => ?_)
        · exact hS1 _
        clear hK K
        try simp only [Act.put, List.setIfInBounds_toArray, List.set_cons_zero, List.set_cons_succ]
        refine wpAnyH_ready (rs := [4]) (by kernel_rfl) (by simp) ?_
        refine AllReadyH.cons (o := ⟨some 28, _, _, _, _, _⟩) rfl (fun K hK => ?_) AllReadyH.nil
        go_simp
        refine hK.out _ _ ?_ (fun hHeld => ?_)
        · exact hS1 _
        clear hK K
        try simp only [Act.put, List.setIfInBounds_toArray, List.set_cons_zero, List.set_cons_succ]
        refine wpAnyH_ready (rs := [8]) (by kernel_rfl) (by simp) ?_
        refine AllReadyH.cons (o := ⟨some 32, _, _, _, _, _⟩) rfl (fun K hK => ?_) AllReadyH.nil
        go_simp
        go_at_call 60
        refine hcall.mono ?_
        rintro e w2 ⟨A2, n2, c2, rfl, k1, k2, k3, k4, R⟩
        refine hK.out _ _ ?_ (fun hHeld => ?_)
        · exact k4
        clear hK K
        try simp only [Act.put, List.setIfInBounds_toArray, List.set_cons_zero, List.set_cons_succ]
        refine wpAnyH_take (i := 9) (oi := ⟨some 33, _, _, _, _, _⟩) (v := .pointer (some ⟨rb, 0, none⟩)) rfl (by kernel_rfl) (by kernel_rfl) (by kernel_rfl) (fun _ _ _ h => h) (Or.inl ⟨by rfl, by intro w hSw; go_simp; (try with_reducible rfl)⟩) (by assumption) ?_
        simp only [Act.put, List.setIfInBounds_toArray, List.set_cons_zero, List.set_cons_succ]
        refine wpAnyH_take (i := 10) (oi := ⟨some 34, _, _, _, _, _⟩) (v := .pointer (some ⟨rb, 1, none⟩)) rfl (by kernel_rfl) (by kernel_rfl) (by kernel_rfl) (fun _ _ _ h => h) (Or.inl ⟨by rfl, by intro w hSw; go_simp; (try with_reducible rfl)⟩) (by assumption) ?_
        simp only [Act.put, List.setIfInBounds_toArray, List.set_cons_zero, List.set_cons_succ]
        refine wpAnyH_ready (rs := [11]) (by kernel_rfl) (by simp) ?_
        refine AllReadyH.cons (o := ⟨none, _, _, _, _, _⟩) rfl (fun K hK => ?_) AllReadyH.nil
        go_simp
        refine hK.out _ _ ?_ (fun hHeld => ?_)
        · rw [World.cell?_setCell_other _ _ _ _ (by simp)]; exact k4
        clear hK K
        try simp only [Act.put, List.setIfInBounds_toArray, List.set_cons_zero, List.set_cons_succ]
        refine wpAnyH_done (by kernel_rfl) ?_ _
        refine NoPanic.normal ?_
        try simp only [Exit.inBlock, Exit.then]
        go_end0
        exact que_end hv A c hs ws ws.length tx w w1 w2 rb A2 n2 c2 HAT.out B2.out R.out HN.out HB.out.lt
end Go.Proofs.Ytnfodidfhnofkaa

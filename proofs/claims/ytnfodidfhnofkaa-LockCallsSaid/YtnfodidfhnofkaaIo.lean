/- The document's own table: Free. -/
import Derived.Test.YtnfodidfhnofkaaIl
namespace Go.Proofs.Ytnfodidfhnofkaa
open Go.RowKit Go.Deep Go.Maps Go.Lib

/-- A table whose blocks are G, come from w0, where they were F. -/
structure TQ (w0 w : World) (F G : Nat → Prop) (tb m : Nat) (rs : RS) : Prop where
  at_ : RefAt w G tb m rs
  low : ∀ b, G b → F b ∨ w0.heap.size ≤ b
  mv : Moves F w0 w
theorem TQ.start {w : World} {F : Nat → Prop} {tb m : Nat} {rs : RS} (h : RefAt w F tb m rs) : TQ w w F F tb m rs := ⟨h, fun _ hb => .inl hb, Moves.refl _ _⟩
theorem TQ.still {w0 w w' : World} {F G : Nat → Prop} {tb m : Nat} {rs : RS} (h : TQ w0 w F G tb m rs) (hb : Below w.heap.size w w') : TQ w0 w' F G tb m rs := ⟨h.at_.below hb, h.low, h.mv.trans (moves_of_below (F := F) hb) fun _ e => .inl e⟩
theorem TQ.step {w0 w w' : World} {F G : Nat → Prop} {tb m m' : Nat} {rs rs' : RS} (h : TQ w0 w F G tb m rs) (h1 : RefAt w' (grow G w w') tb m' rs') (h2 : Moves G w w') : TQ w0 w' F (grow G w w') tb m' rs' :=
  ⟨h1, fun b hb => hb.elim (h.low b) (fun e => .inr (Nat.le_trans h.mv.size e.1)), h.mv.trans h2 h.low⟩
theorem TQ.grown {w0 w w' : World} {F G : Nat → Prop} {tb m : Nat} {rs : RS} {row : Option Nat} (h : TQ w0 w F G tb m rs) (hg : w.grownBy w' row) (hr : ∀ b, row = some b → ¬ G b ∧ w0.heap.size ≤ b) : TQ w0 w' F G tb m rs :=
  ⟨h.at_.moves (moves_of_grown (F := fun b => row = some b) hg fun _ e => e) (fun b hb e => (hr b e).1 hb), h.low, h.mv.trans (moves_of_grown (F := fun b => row = some b) hg fun _ e => e) fun b e => .inr (hr b e).2⟩
theorem TQ.lt {w0 w : World} {F G : Nat → Prop} {tb m : Nat} {rs : RS} (h : TQ w0 w F G tb m rs) : ∀ b, G b → b < w.heap.size := h.at_.lt
theorem TQ.does {w w' : World} {F G : Nat → Prop} {tb m : Nat} {rs : RS} (h : TQ w w' F G tb m rs) (hl : ∀ b, F b → b < w.heap.size) : RefAt w' (grow F w w') tb m rs ∧ Moves F w w' :=
  ⟨h.at_.more (fun b hb => (h.low b hb).imp id fun e => ⟨e, h.lt b hb⟩) fun b hb => hb.elim (fun e => Nat.lt_of_lt_of_le (hl b e) h.mv.size) (·.2), h.mv⟩
/-- The holds are turned. -/
theorem refSetH {wr w2 : World} {G : Nat → Prop} {tb m m' n c : Nat} {rs : RS} {A : Option Addr} {l : List RHold} (h : RefAt wr G tb m rs) (hb : Below wr.heap.size wr w2) (hown : ERow eltQ wr.heap.size w2 (.slice A n c) l) (hlen : l.length + rs.queue.length ≤ m') :
    RefAt (w2.setCell ⟨tb, 1, none⟩ (.slice A n c)) (grow G wr (w2.setCell ⟨tb, 1, none⟩ (.slice A n c))) tb m' { rs with holds := l } ∧ Moves G wr (w2.setCell ⟨tb, 1, none⟩ (.slice A n c)) := by
  obtain ⟨hv, qv, h⟩ := h
  have h1 := h.below hb
  have hM : Moves G wr (w2.setCell ⟨tb, 1, none⟩ (.slice A n c)) := (moves_of_below hb).trans (moves_setCell G w2 ⟨tb, 1, none⟩ _ h.f1) fun _ e => .inl e
  have hsk : ∀ b, b ≠ tb → (w2.setCell ⟨tb, 1, none⟩ (.slice A n c)).heap[b]? = w2.heap[b]? := fun b hb => Below.heap_setCell _ _ _ b hb
  have hn : ∀ b, (Value.slice A n c).ownBlock = some b → wr.heap.size ≤ b ∧ b < w2.heap.size := fun b e => hown.lt b e
  have hs2 : (w2.setCell ⟨tb, 1, none⟩ (.slice A n c)).heap.size = w2.heap.size := by simp
  refine ⟨⟨.slice A n c, qv, ?_, ?_, h1.qrow.kept fun b e => hsk b (h.qF b e).2, fun b e e2 => ?_, fun b e => ⟨.inr ⟨(hn b e).1, by rw [hs2]; exact (hn b e).2⟩, fun e2 => by have := (hn b e).1; have := h.tbl; omega⟩, fun b e => ⟨.inl (h.qF b e).1, (h.qF b e).2⟩, .inl h.f1, fun b e => e.elim (fun e => Nat.lt_of_lt_of_le (h.lt b e) hM.size) (·.2), hlen⟩, hM⟩
  · have := setCell_heap (v := .slice A n c) (i := 1) h1.blk
    simpa using this
  · exact QRow.kept (hown.base (Nat.zero_le _)) fun b e => hsk b fun e2 => by have := (hn b e).1; have := h.tbl; omega
  · have := (hn b e).1
    have := h.lt b (h.qF b e2).1
    omega
theorem nodup_len {α : Type} [DecidableEq α] : ∀ {l l' : List α}, l.Nodup → (∀ x ∈ l, x ∈ l') → l.length ≤ l'.length
  | [], _, _, _ => Nat.zero_le _
  | x :: l, l', hn, h => by
    have hn' := List.nodup_cons.1 hn
    have hx := h x List.mem_cons_self
    have ih := nodup_len (l := l) (l' := l'.erase x) hn'.2 fun y hy => (List.mem_erase_of_ne (fun (e : y = x) => hn'.1 (by rw [← e]; exact hy))).2 (h y (List.mem_cons_of_mem _ hy))
    have := List.length_erase_of_mem hx
    have hp : 0 < l'.length := List.length_pos_of_mem hx
    simp only [List.length_cons]
    omega
set_option maxRecDepth 100000 in
set_option maxHeartbeats 8000000 in
theorem refFree_any (F : Nat → Prop) (tb m : Nat) (rs : RS) (tx : Int) (w : World) (h : RefAt w F tb m rs) (hm : m ≤ 900) :
    Calls Try.prog 16 #[.pointer (some ⟨tb, 0, none⟩), .int .i64 tx] w fun e w' => e = .returned (.tuple #[]) ∧ ∃ ks, SortedK ks ∧ (∀ k, k ∈ ks ↔ (∃ x ∈ rs.holds, x.tx = tx ∧ x.key = k) ∨ waitsQ rs.queue tx = some k) ∧ RefAt w' (grow F w w') tb m (freeQ rs tx ks) ∧ Moves F w w' := by
  have HLT := Lib.hid h.lt
  have HT := Lib.hid h
  obtain ⟨o, ho⟩ : ∃ o, waitsQ rs.queue tx = o := ⟨_, rfl⟩
  have HO := Lib.hid ho
  have hks := refKeys_any F tb m rs tx w h (by omega)
  clear h ho
  go_enter Try.func16, Try.ntmps16
  go_wp2_with fail
  refine hks.mono ?_
  rintro e w1 ⟨vk, keys, rfl, hk1, hk2, hk3, hb1⟩
  have HK1 := Lib.hid hk1
  have HK2 := Lib.hid hk2
  have HK3 := Lib.hid hk3
  have HB1 := Lib.hid hb1
  have hKL : keys.length ≤ m := by
    have hnd : keys.Nodup := hk2.imp fun h e => by rw [e] at h; omega
    have hsub : ∀ k ∈ keys, k ∈ rs.holds.map RHold.key := fun k hk => by obtain ⟨x, hx, _, e⟩ := (hk3 k).1 hk; exact List.mem_map.2 ⟨x, hx, e⟩
    have := nodup_len hnd hsub
    rw [List.length_map] at this
    obtain ⟨_, _, h⟩ := HT.out
    have := h.len
    omega
  have hw := refWaits_any F tb m rs tx o w1 (HT.out.below hb1) (by omega) HO.out
  rw [KV_def] at hw
  clear hks hk1 hk2 hk3 hb1
  go_wp2_with fail
  refine hw.mono ?_
  rintro e w2 ⟨rfl, hb2⟩
  have HB2 := Lib.hid (HB1.out.trans (hb2.mono HB1.out.size))
  have HK4 := Lib.hid (HK1.out.below hb2)
  clear hw hb2
  obtain ⟨kk, hkk⟩ : ∃ kk, keyQ o = kk := ⟨_, rfl⟩
  rw [hkk]
  have HKK := Lib.hid hkk
  clear hkk
  obtain ⟨ok, hok⟩ : ∃ ok, o.isSome = ok := ⟨_, rfl⟩
  rw [hok]
  have HOK := Lib.hid hok
  clear hok
  have hbV : Below w2.heap.size w2 (w2.alloc (.cells #[.int .u8 (kk.a.val : Int), .int .u8 (kk.b.val : Int), .int .u8 (kk.c.val : Int), .int .u8 (kk.d.val : Int)] 24)) := (Below.refl _ w2).alloc (Nat.le_refl _) _
  have hkV : KeyC (w2.alloc (.cells #[.int .u8 (kk.a.val : Int), .int .u8 (kk.b.val : Int), .int .u8 (kk.c.val : Int), .int .u8 (kk.d.val : Int)] 24)) w2.heap.size kk := heap_alloc_new w2 _
  have hsV : (w2.alloc (.cells #[.int .u8 (kk.a.val : Int), .int .u8 (kk.b.val : Int), .int .u8 (kk.c.val : Int), .int .u8 (kk.d.val : Int)] 24)).heap.size = w2.heap.size + 1 := by simp
  have HSV := Lib.hid hsV
  have HKW := Lib.hid hkV
  have HBW := Lib.hid (HB2.out.trans (hbV.mono HB2.out.size))
  have HKV := Lib.hid (HK4.out.below hbV)
  clear hsV hkV
  go_wp2_with fail
  generalize hVV : (w2.alloc (.cells #[.int .u8 (kk.a.val : Int), .int .u8 (kk.b.val : Int), .int .u8 (kk.c.val : Int), .int .u8 (kk.d.val : Int)] 24)) = V at *
  clear hVV hbV
  have HMD := Lib.hid (show ERow eltQ V.heap.size (V.alloc (.cells #[] 74)) (.slice (some ⟨w2.heap.size + 1, 0, none⟩) 0 0) [] by rw [← HSV.out]; exact ERow.made eltQ V.heap.size V (Nat.le_refl _))
  have hbX : Below V.heap.size V (V.alloc (.cells #[] 74)) := (Below.refl _ V).alloc (Nat.le_refl _) _
  have HBX := Lib.hid hbX
  clear hbX
  have HTV := Lib.hid ((TQ.start HT.out).still HBW.out)
  obtain ⟨hv, qv, hi⟩ := HTV.out.at_
  obtain ⟨A, c, rfl⟩ := hi.hrow.slice
  obtain ⟨N, hN⟩ : ∃ N, rs.holds.length = N := ⟨_, rfl⟩
  have hNm : N ≤ 1000 := by have := hi.len; omega
  rw [hN] at hi
  have HI := Lib.hid hi
  have HN := Lib.hid hN
  clear hi hN
  go_loopg [7, 8] N (fun gg s7 s8 wq => ∃ j : Nat, j ≤ N ∧ N - j ≤ gg ∧ s8 = .int .i64 j ∧ Hid (ERow eltQ V.heap.size wq s7 ((rs.holds.take j).filter (notTx tx))) ∧ Hid (Below V.heap.size V wq))
  case atStart => exact ⟨0, Nat.zero_le _, by omega, rfl, Lib.hid (by rw [List.take_zero]; exact HMD.out), HBX⟩
  case round =>
    obtain ⟨j, hj, hgj, rfl, HR, HB⟩ := hrel
    have c2 := (HI.out.below HB.out).c1
    have tl := (HI.out.below HB.out).tbl
    have hsz := HB.out.size
    by_cases hjl : j < N
    · have hjz : (j : Int) < (N : Int) := by omega
      obtain ⟨y, hy⟩ : ∃ y, rs.holds[j]? = some y := ⟨_, List.getElem?_eq_getElem (by have := HN.out; omega)⟩
      obtain ⟨g, rfl, -, hgl, hNc⟩ := (HI.out.below HB.out).hrow.at (by have := HN.out; omega)
      obtain ⟨y0, y1, y2, y3, y4, y5, y6, y7⟩ := (HI.out.below HB.out).hrow.cells hy
      have HFS := Lib.hid (filter_snoc hy (notTx tx))
      have hfl := filter_take_len rs.holds j (notTx tx)
      clear hy
      by_cases ht : y.tx = tx
      · have e1 : (y.tx != tx) = false := by simp [ht]
        have HF2 := Lib.hid (show (rs.holds.take (j + 1)).filter (notTx tx) = (rs.holds.take j).filter (notTx tx) by rw [HFS.out]; unfold notTx; rw [e1]; simp)
        clear ht HFS
        go_wp2_with fail
        go_roundg (N - (j + 1))
        case measure => omega
        case rel => exact ⟨j + 1, by omega, by omega, by go_num, by rw [HF2.out]; exact HR, HB⟩
      · have e1 : (y.tx != tx) = true := by simpa using ht
        have HF2 := Lib.hid (show (rs.holds.take (j + 1)).filter (notTx tx) = (rs.holds.take j).filter (notTx tx) ++ [y] by rw [HFS.out]; unfold notTx; rw [e1]; rfl)
        clear ht HFS
        go_wp2_with (first
          | (at_builtin; refine wpList_appendE eltQ _ rfl _ _ rfl V.heap.size _ ((rs.holds.take j).filter (notTx tx)) rfl (HR.out.below ((Below.refl _ wr).alloc (Nat.le_refl _) _)) (some ⟨wr.heap.size, 0, none⟩) [y] 1 1 rfl rfl (EIn.new eltQ wr y _) (fun e => by cases e) (by omega) (by simp; omega) ?_; intro v' w' hown hgrow hat)
          | fail)
        go_roundg (N - (j + 1))
        case measure => omega
        case rel => exact ⟨j + 1, by omega, by omega, by go_num, by rw [HF2.out]; exact Lib.hid hown, Lib.hid ((HB.out.alloc hsz _).grown hgrow (by simp; omega) (fun k e => (HR.out.lt k e).1))⟩
    · obtain rfl : j = N := by omega
      have e : rs.holds.take j = rs.holds := by rw [← HN.out]; exact List.take_length
      have HR2 := Lib.hid (show ERow eltQ V.heap.size wr u7 (rs.holds.filter (notTx tx)) by have := HR.out; rw [e] at this; exact this)
      clear HR e
      obtain ⟨A7, n7, c7, rfl, -⟩ := ERow.sliceN HR2.out
      have f0 : wr.frozen? ⟨tb, 1, none⟩ = false := by
        have := (HI.out.below HB.out).blk
        simp [World.frozen?, this]
      have hset := refSetH (m' := m) HTV.out.at_ HB.out HR2.out (by have := HI.out.len; have := List.length_filter_le (notTx tx) rs.holds; omega)
      have hbs : Below V.heap.size V wr := HB.out
      have HT1 := Lib.hid (HTV.out.step hset.1 hset.2)
      have HMV := Lib.hid hset.2
      clear hset hbs
      go_upto_region 9 with fail
      generalize (wr.setCell ⟨tb, 1, none⟩ (.slice A7 n7 c7)) = X at *
      obtain ⟨G1, hG1⟩ : ∃ G, grow F V X = G := ⟨_, rfl⟩
      rw [hG1] at HT1
      have hnoF : ∀ b, w.heap.size ≤ b → b < V.heap.size → ¬ F b ∧ ¬ G1 b := fun b h1 h2 => by
        have hf : ¬ F b := fun e => by have := HLT.out b e; omega
        exact ⟨hf, by rw [← hG1]; exact fun e => e.elim hf fun e => by omega⟩
      have HNO := Lib.hid hnoF
      have HKX := Lib.hid (show ERow eltK w.heap.size X vk keys from HKV.out.kept fun b hb => HMV.out.block b (HKV.out.lt b hb).2 (hnoF b (HKV.out.lt b hb).1 (HKV.out.lt b hb).2).1)
      have HVL := Lib.hid (show ∀ b, vk.ownBlock = some b → ¬ G1 b from fun b hb => (hnoF b (HKV.out.lt b hb).1 (HKV.out.lt b hb).2).2)
      have HKC := Lib.hid (show KeyC X w2.heap.size kk ∧ ¬ G1 w2.heap.size from by
        have hh := HKW.out.lt
        have h2 := hnoF w2.heap.size HB2.out.size hh
        exact ⟨(HMV.out.block _ hh h2.1).trans HKW.out, h2.2⟩)
      clear HKV HKW HNO hnoF hG1 HMD HBX HI HN HR2 HTV HMV f0 c2 tl hsz
      obtain ⟨hv2, qv2, hi2⟩ := HT1.out.at_
      obtain ⟨A2, n2, c2, rfl, hn2⟩ := ERow.sliceN (E := eltQ) hi2.qrow
      obtain ⟨N, rfl⟩ : ∃ N, N = n2 := ⟨_, rfl⟩
      have hNq : N ≤ 1000 := by have := hi2.len; have h2 : N = rs.queue.length := hn2; simp only at this; omega
      have HI := Lib.hid hi2
      have HN := Lib.hid (show rs.queue.length = N from hn2.symm)
      have HMD := Lib.hid (show ERow eltQ X.heap.size (X.alloc (.cells #[] 74)) (.slice (some ⟨X.heap.size, 0, none⟩) 0 0) [] from ERow.made eltQ X.heap.size X (Nat.le_refl _))
      have HBX := Lib.hid (show Below X.heap.size X (X.alloc (.cells #[] 74)) from (Below.refl _ X).alloc (Nat.le_refl _) _)
      clear hi2 hn2
      go_wp2_with fail
      go_loopg [7, 9] N (fun gg s7 s8 wq => ∃ j : Nat, j ≤ N ∧ N - j ≤ gg ∧ s8 = .int .i64 j ∧ Hid (ERow eltQ X.heap.size wq s7 ((rs.queue.take j).filter (notTx tx))) ∧ Hid (Below X.heap.size X wq))
      case atStart => exact ⟨0, Nat.zero_le _, by omega, rfl, Lib.hid (by rw [List.take_zero]; exact HMD.out), HBX⟩
      case round =>
        obtain ⟨j, hj, hgj, rfl, HR, HB⟩ := hrel
        have c2 := (HI.out.below HB.out).c2
        have tl := (HI.out.below HB.out).tbl
        have hsz := HB.out.size
        by_cases hjl : j < N
        · have hjz : (j : Int) < (N : Int) := by omega
          obtain ⟨y, hy⟩ : ∃ y, rs.queue[j]? = some y := ⟨_, List.getElem?_eq_getElem (by have := HN.out; omega)⟩
          obtain ⟨g, rfl, -, hgl, hNc⟩ := (HI.out.below HB.out).qrow.at (by have h1 := HN.out; show 0 < rs.queue.length; omega)
          obtain ⟨y0, y1, y2, y3, y4, y5, y6, y7⟩ := (HI.out.below HB.out).qrow.cells hy
          have HFS := Lib.hid (filter_snoc hy (notTx tx))
          have hfl := filter_take_len rs.queue j (notTx tx)
          clear hy
          by_cases ht : y.tx = tx
          · have e1 : (y.tx != tx) = false := by simp [ht]
            have HF2 := Lib.hid (show (rs.queue.take (j + 1)).filter (notTx tx) = (rs.queue.take j).filter (notTx tx) by rw [HFS.out]; unfold notTx; rw [e1]; simp)
            clear ht HFS
            go_wp2_with fail
            go_roundg (N - (j + 1))
            case measure => omega
            case rel => exact ⟨j + 1, by omega, by omega, by go_num, by rw [HF2.out]; exact HR, HB⟩
          · have e1 : (y.tx != tx) = true := by simpa using ht
            have HF2 := Lib.hid (show (rs.queue.take (j + 1)).filter (notTx tx) = (rs.queue.take j).filter (notTx tx) ++ [y] by rw [HFS.out]; unfold notTx; rw [e1]; rfl)
            clear ht HFS
            go_wp2_with (first
              | (at_builtin; refine wpList_appendE eltQ _ rfl _ _ rfl X.heap.size _ ((rs.queue.take j).filter (notTx tx)) rfl (HR.out.below ((Below.refl _ wr).alloc (Nat.le_refl _) _)) (some ⟨wr.heap.size, 0, none⟩) [y] 1 1 rfl rfl (EIn.new eltQ wr y _) (fun e => by cases e) (by omega) (by simp; omega) ?_; intro v' w' hown hgrow hat)
              | fail)
            go_roundg (N - (j + 1))
            case measure => omega
            case rel => exact ⟨j + 1, by omega, by omega, by go_num, by rw [HF2.out]; exact Lib.hid hown, Lib.hid ((HB.out.alloc hsz _).grown hgrow (by simp; omega) (fun k e => (HR.out.lt k e).1))⟩
        · obtain rfl : j = N := by omega
          have e : rs.queue.take j = rs.queue := by rw [← HN.out]; exact List.take_length
          have HR2 := Lib.hid (show ERow eltQ X.heap.size wr u7 (rs.queue.filter (notTx tx)) by have := HR.out; rw [e] at this; exact this)
          clear HR e
          obtain ⟨A7, n7, c7, rfl, -⟩ := ERow.sliceN HR2.out
          have f0 : wr.frozen? ⟨tb, 2, none⟩ = false := by
            have := (HI.out.below HB.out).blk
            simp [World.frozen?, this]
          have hset := refSetQ (m' := m) HT1.out.at_ HB.out HR2.out (by have h1 := HI.out.len; have h2 := List.length_filter_le (notTx tx) rs.queue; have h3 : (rs.holds.filter (notTx tx)).length + rs.queue.length ≤ m := h1; show (rs.holds.filter (notTx tx)).length + _ ≤ m; omega)
          have HT2 := Lib.hid (HT1.out.step hset.1 hset.2)
          have HMV := Lib.hid hset.2
          clear hset
          go_upto_region 16 with fail
          generalize (wr.setCell ⟨tb, 2, none⟩ (.slice A7 n7 c7)) = Y at *
          obtain ⟨G2, hG2⟩ : ∃ G, grow G1 X Y = G := ⟨_, rfl⟩
          rw [hG2] at HT2
          have HKY := Lib.hid (show ERow eltK w.heap.size Y vk keys from HKX.out.kept fun b hb => HMV.out.block b (HKX.out.lt b hb).2 (HVL.out b hb))
          have HVL2 := Lib.hid (show ∀ b, vk.ownBlock = some b → ¬ G2 b from fun b hb => by rw [← hG2]; exact fun e => e.elim (HVL.out b hb) fun e => by have := (HKX.out.lt b hb).2; omega)
          have HKC2 := Lib.hid (show KeyC Y w2.heap.size kk from (HMV.out.block _ HKC.out.1.lt HKC.out.2).trans HKC.out.1)
          clear HKX HVL HKC hG2 HMD HBX HI HN HR2 HT1 HMV f0 c2 tl hsz
          obtain ⟨k0, k1, k2, k3⟩ := HKC2.out.cells
          have hkl := HKC2.out.lt
          obtain ⟨Ak, nk, ck, rfl, hnk⟩ := ERow.sliceN HKY.out
          have HNK := Lib.hid (show keys.length = nk from hnk.symm)
          clear hnk
          go_upto_if 88 with fail
          go_cut [4] from 89 to 93 (fun s4 wx => ∃ (ks : List KeyT) (G3 : Nat → Prop), Hid (ERow eltK w.heap.size wx s4 ks) ∧ Hid (∀ b, s4.ownBlock = some b → ¬ G3 b) ∧ Hid (TQ w wx F G3 tb m { rs with holds := rs.holds.filter (notTx tx), queue := rs.queue.filter (notTx tx) }) ∧ Hid (SortedK ks) ∧ ks.length ≤ 1000 ∧ Hid (∀ k, k ∈ ks ↔ (∃ x ∈ rs.holds, x.tx = tx ∧ x.key = k) ∨ o = some k))
          case first =>
            cases ok with
            | false =>
              have HON := Lib.hid (show ∀ k, ¬ o = some k from fun k e => by have := HOK.out; rw [e] at this; cases this)
              go_wp2_with fail
              go_meet
              exact ⟨keys, G2, HKY, HVL2, HT2, HK2, by omega, Lib.hid (fun k => by rw [HK3.out k]; exact ⟨.inl, fun h => h.elim id fun e => absurd e (HON.out k)⟩)⟩
            | true =>
              have HON := Lib.hid (show o = some kk by
                have h1 := HKK.out
                have h2 := HOK.out
                cases ho : o with
                | none => rw [ho] at h2; cases h2
                | some k' => rw [ho] at h1; rw [← h1]; rfl)
              have hnk2 : nk ≤ 900 := by have := HNK.out; omega
              have hYs : w.heap.size ≤ Y.heap.size := HT2.out.mv.size
              go_wp2_with (first
                | (at_builtin; refine wpList_appendE eltK _ rfl _ _ rfl w.heap.size _ keys rfl (HKY.out.below ((Below.refl _ Y).alloc (Nat.le_refl _) _)) (some ⟨Y.heap.size, 0, none⟩) [kk] 1 1 rfl rfl (EIn.new eltK Y kk _) (fun e => by cases e) (by rw [HNK.out]; omega) (by simp; omega) ?_; intro v' w5 hown hgrow hat; obtain ⟨A5, n5, c5, rfl, hn5⟩ := ERow.sliceN hown; have HN5 := Lib.hid hn5; have HO5 := Lib.hid hown; have HT5 := Lib.hid ((HT2.out.still ((Below.refl _ Y).alloc (Nat.le_refl _) (.cells #[.int .u8 (kk.a.val : Int), .int .u8 (kk.b.val : Int), .int .u8 (kk.c.val : Int), .int .u8 (kk.d.val : Int)] 24))).grown hgrow fun b hb => ⟨HVL2.out b hb, (HKY.out.lt b hb).1⟩); have hY5 : Y.heap.size ≤ w5.heap.size := (by have := hgrow.size; simp at this; omega); clear hn5 hown hgrow hat)
                | fail)
              have hso := refSorted_any A5 n5 c5 (keys ++ [kk]) w5 HN5.out.symm (by rw [HN5.out, List.length_append, HNK.out]; simp; omega) (sorted_row HO5.out)
              refine hso.mono ?_
              rintro e w7 ⟨v, out, rfl, h1, h2, h3, h4⟩
              have H1 := Lib.hid h1
              have H2 := Lib.hid h2
              have H3 := Lib.hid h3
              have HT7 := Lib.hid (HT5.out.still h4)
              have hol : out.length ≤ 1000 := by
                have hnd : out.Nodup := h2.imp fun h e => by rw [e] at h; omega
                have := nodup_len hnd (fun k hk => (h3 k).1 hk)
                rw [List.length_append, HNK.out] at this
                simp at this
                omega
              clear hso h1 h2 h3 h4 k0 k1 k2 k3 hkl
              go_wp2_with fail
              go_meet
              exact ⟨out, G2, Lib.hid (H1.out.base (by omega)), Lib.hid (fun b hb e => by have h1 := (H1.out.lt b hb).1; have h2 := HT2.out.lt b e; omega), HT7, H2, hol, Lib.hid (fun k => by
                rw [H3.out k, List.mem_append, List.mem_singleton, HK3.out k, HON.out]
                exact ⟨fun h => h.imp id fun e => by rw [e], fun h => h.imp id fun e => (Option.some.inj e).symm⟩)⟩
          case rest =>
            obtain ⟨ks, G3, HR4, HV4, HT4, HS4, hks4, HM4⟩ := hcut
            obtain ⟨A4, n4, c4, rfl, hn4⟩ := ERow.sliceN HR4.out
            have HN4 := Lib.hid (show ks.length = n4 from hn4.symm)
            have hn4b : n4 ≤ 1000 := by rw [hn4]; exact hks4
            clear hn4 hks4
            go_wp2_with fail
            go_loopg [10] n4 (fun gg s10 wq => ∃ (i : Nat) (G : Nat → Prop), i ≤ n4 ∧ n4 - i ≤ gg ∧ s10 = .int .i64 i ∧ Hid (ERow eltK w.heap.size wq (.slice A4 n4 c4) ks) ∧ Hid (∀ b, (Value.slice A4 n4 c4).ownBlock = some b → ¬ G b) ∧ Hid (TQ w wq F G tb m ((ks.take i).foldl (fun r k => onQS k r) { rs with holds := rs.holds.filter (notTx tx), queue := rs.queue.filter (notTx tx) })))
            case atStart => exact ⟨0, G3, Nat.zero_le _, by omega, rfl, HR4, HV4, Lib.hid (by rw [List.take_zero]; exact HT4.out)⟩
            case round =>
              obtain ⟨i, G, hi, hgi, rfl, HRi, HVi, HTi⟩ := hrel
              by_cases hil : i < n4
              · have hiz : (i : Int) < (n4 : Int) := by omega
                obtain ⟨k, hk⟩ : ∃ k, ks[i]? = some k := ⟨_, List.getElem?_eq_getElem (by have := HN4.out; omega)⟩
                obtain ⟨g, rfl, -, hgl, -⟩ := HRi.out.at (by have := HN4.out; omega)
                have hkc := ERow.cell HRi.out hk
                have q0 : wr.cell? ⟨g, i * 4, none⟩ = some (.int .u8 (k.a.val : Int)) := hkc 0 _ rfl
                have q1 : wr.cell? ⟨g, i * 4 + 1, none⟩ = some (.int .u8 (k.b.val : Int)) := hkc 1 _ rfl
                have q2 : wr.cell? ⟨g, i * 4 + 2, none⟩ = some (.int .u8 (k.c.val : Int)) := hkc 2 _ rfl
                have q3 : wr.cell? ⟨g, i * 4 + 3, none⟩ = some (.int .u8 (k.d.val : Int)) := hkc 3 _ rfl
                have HTK := Lib.hid (take_snoc hk)
                obtain ⟨rsi, hrsi⟩ : ∃ r, (ks.take i).foldl (fun r k => onQS k r) { rs with holds := rs.holds.filter (notTx tx), queue := rs.queue.filter (notTx tx) } = r := ⟨_, rfl⟩
                rw [hrsi] at HTi
                have HRS := Lib.hid hrsi
                have hon := refOn_any G tb m rsi k wr HTi.out.at_ (by omega)
                rw [KV_def] at hon
                clear hkc hk hrsi
                go_wp2_with fail
                refine hon.mono ?_
                rintro e w7 ⟨rfl, r1, r2⟩
                have HT7 := Lib.hid (HTi.out.step r1 r2)
                have HR7 := Lib.hid (show ERow eltK w.heap.size w7 (.slice (some ⟨g, 0, none⟩) n4 c4) ks from HRi.out.kept fun b hb => r2.block b (HRi.out.lt b hb).2 (HVi.out b hb))
                have HV7 := Lib.hid (show ∀ b, (Value.slice (some ⟨g, 0, none⟩) n4 c4).ownBlock = some b → ¬ grow G wr w7 b from fun b hb e => e.elim (HVi.out b hb) fun e => by have := (HRi.out.lt b hb).2; omega)
                clear hon r1 r2 q0 q1 q2 q3 hgl
                go_wp2_with fail
                go_roundg (n4 - (i + 1))
                case measure => omega
                case rel => exact ⟨i + 1, _, by omega, by omega, by go_num, HR7, HV7, Lib.hid (by rw [HTK.out, List.foldl_append, HRS.out]; exact HT7.out)⟩
              · obtain rfl : i = n4 := by omega
                have e : ks.take i = ks := by rw [← HN4.out]; exact List.take_length
                rw [e] at HTi
                have HD := Lib.hid (HTi.out.does HLT.out)
                clear e
                go_wp2_with fail
                go_end0
                exact ⟨rfl, ks, HS4.out, fun k => by rw [HM4.out k, HO.out], HD.out.1, HD.out.2⟩
end Go.Proofs.Ytnfodidfhnofkaa

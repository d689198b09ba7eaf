/- lock: keysWhere's walk. -/
import Derived.Test.YtnfodidfhnofkaaBs
namespace Go.Proofs.Ytnfodidfhnofkaa
open Go.RowKit Go.Deep Go.Maps Go.Sort Go.Lib

set_option maxRecDepth 100000 in
theorem infoKey : (Try.prog.info? 24).map (fun i => (i.zero, i.size, i.bytes)) = some (some (.agg #[.int .u8 0, .int .u8 0, .int .u8 0, .int .u8 0]), 4, 4) := by kernel_rfl
theorem entersCmp : ∀ args w, (callFunc 62 args).run Try.prog w = .ok (.enter 62 args) w := Go.Proofs.enters_of Try.func62 (by kernel_rfl) rfl
set_option maxRecDepth 100000 in
set_option maxHeartbeats 2000000 in
theorem keysWhere_any (F : Nat → Prop) (tb m : Nat) (st : PS) (w : World) (h : LockAt w F tb m st) (hm : m ≤ 10000) (c : Nat) (cb : Array Value) (q : PRow → Bool) (ec : ∀ args w, (callFunc c args).run Try.prog w = .ok (.enter c args) w)
    (hC : ∀ W v r, Below w.heap.size w W → RowAt W v r → r.hs.length + r.ws.length ≤ m → Calls Try.prog c (#[v] ++ cb) W fun e w' => e = .returned (.bool (q r)) ∧ Below W.heap.size W w') :
    Calls Try.prog 42 #[.pointer (some ⟨tb, 0, none⟩), .func (.func c) #[] cb] w fun e w' => ∃ v l, e = .returned v ∧ KeysAt w' w.heap.size v l ∧ KeysL st q l ∧ Below w.heap.size w w' := by
  obtain ⟨_, rb, wb, g, h⟩ := h
  have rl := h.rbl
  have tl := h.tbl
  have c1 := h.c1
  have HT := Lib.hid h
  have HC := Lib.hid hC
  obtain ⟨i0, hi, hz0, hz1, hz2⟩ := info_parts infoKey
  clear h hC
  go_enter Try.func42, Try.ntmps42
  go_wp2_with (first
    | (at_range; refine wpList_range_map kindKey rfl _ 55 rfl 64 Try.underlying55 rb m (rowF st g) rfl HT.out.map1 ?_; intro w0 cnt0 hcnt0 hrg0 hg0 hs0)
    | fail)
  go_frame
  have hb0 : Below w.heap.size w w0 := (Below.refl _ w).grown hg0 (Nat.le_refl _) (fun k e => by cases e)
  go_loopw [5] (fun v wr => ∃ (left : KeyT → Bool) (cnt : Nat) (ls : List KeyT), Hid (RangeAt Try.prog 24 (fun _ => True) kLit wr rb w.heap.size m (rowF st g) left cnt) ∧ wr.ownsRow (w.heap.size + 1) 24 4 v ls.length (ls.flatMap kv) ∧ Hid (Got (fun _ => True) (rowF st g) (fun k => q (st.row k)) left ls) ∧ ls.length + cnt ≤ m ∧ Below w.heap.size w wr ∧ w.heap.size + 1 ≤ wr.heap.size)
    (fun _ wr => wr.rangeLeft rb w.heap.size)
  case atStart => exact ⟨_, cnt0, [], Lib.hid hrg0, World.ownsRow_nil _ _ _ _, Lib.hid Got.start, by simpa using hcnt0, hb0, by omega⟩
  case round =>
    obtain ⟨left, cnt, ls, HR, hrow, HG, hlen, hbl, hsr⟩ := hrel
    go_wp2_with (first
      | (at_next; refine wpList_next_map kindKey rfl _ rfl rb w.heap.size m (rowF st g) left cnt rfl HR.out ?_ ?_)
      | fail)
    · intro _ hl0
      have HL := Lib.hid (keys_done HG.out (fun x _ => hl0 x))
      rcases hrow.2 with ⟨hnil, hk0⟩ | ⟨gb, cap, cur, hv, hbase, hb, h1, h2, h3, h4⟩
      · subst hnil
        obtain rfl : ls = [] := List.eq_nil_of_length_eq_zero hk0
        clear hrow
        go_wp2_with (go_at_call 61; refine (Go.Proofs.AnyF.slices_SortFunc_none Try.laysSort none 0 _ _).mono ?_; rintro e w' ⟨rfl, rfl⟩)
        go_ret
        exact ⟨.slice none 0 0, [], rfl, World.ownsRow_nil _ _ _ _, by simpa [kSort] using HL.out, hbl⟩
      · subst hv
        have hgl : gb < wr.heap.size := (Array.getElem?_eq_some_iff.1 hb).1
        have HS := Lib.hid (Go.Proofs.AnyQ.slices_SortFunc_total Try.laysSort 4 Try.isAgg24 Try.sizeOf24 kv kv_len kv_one kcmp kcmp_swo 62 #[] gb 0 cap ls.toArray wr entersCmp (cmp_lays _ _ _ _) (holdsK_block hb h4) hgl (by simp; omega) (fun x y h1 h2 => kcmp_total x y h1 h2))
        have HRO := Lib.hid (fun nn os => keysAt_sorted (n := nn) (os := os) (base := w.heap.size) (kSort_len ls) (by omega) hb h1 h2 h3)
        have HG2 := Lib.hid (fun nn os => grownBy_sortK (w := wr) (g := gb) (n := nn) (os := os) (kSort ls).toArray)
        clear hrow h4 hb h3
        go_wp2_with (go_at_call 61; refine HS.out.mono ?_; rintro e w' ⟨rfl, nn, os, rfl⟩)
        go_ret
        exact ⟨_, _, rfl, HRO.out nn os, HL.out, hbl.grown (HG2.out nn os) hbl.size (fun k e => by injection e with e; omega)⟩
    · intro x v w1 cnt1 hlx hfx hrg1 hlt hg1 hs1 hen
      have HX := Lib.hid hfx
      obtain ⟨r, hr, rfl⟩ : ∃ r, st.rows x = some r ∧ v = g x := by
        unfold rowF at hfx
        cases hp : st.rows x with
        | none => rw [hp] at hfx; cases hfx
        | some r => rw [hp] at hfx; exact ⟨r, rfl, (Option.some.inj hfx).symm⟩
      have hbl1 : Below w.heap.size w w1 := hbl.grown hg1 hbl.size (fun k e => by injection e with e; omega)
      have hrow1 : w1.ownsRow (w.heap.size + 1) 24 4 u5 ls.length (ls.flatMap kv) := hrow.kept hg1 (.inr fun e => by have := (hrow.lt _ e).1; omega)
      obtain ⟨hr1, hr2, hr3⟩ := HT.out.rows x r trivial hr
      have hr1' := hr1.kept (w' := w1) (fun b hb => hbl1.block b (HT.out.lt b (hr3 b hb).1))
      have HQ := Lib.hid (show st.row x = r by unfold PS.row; rw [hr]; rfl)
      obtain ⟨A, n, c', A', n', c'', e1, e2, e3⟩ := hr1'.parts
      rw [e1] at hen hr1'
      have HRA := Lib.hid hr1'
      unfold KV kv at hen
      have HR1 := Lib.hid hrg1
      have hle1 := Lib.hid (RangeAt.left_eq HR.out)
      have hs2 := hbl1.size
      have hs3 : w.heap.size + 1 ≤ w1.heap.size := by omega
      clear hfx hrg1 hg1 hbl hrow hs1 hsr hr1 hr1' hr3 e1
      generalize hz0' : ((x.a.val : Nat) : Int) = z0 at *
      generalize hz1' : ((x.b.val : Nat) : Int) = z1 at *
      generalize hz2' : ((x.c.val : Nat) : Int) = z2 at *
      generalize hz3' : ((x.d.val : Nat) : Int) = z3 at *
      have HK := Lib.hid (show kv x = [.int .u8 z0, .int .u8 z1, .int .u8 z2, .int .u8 z3] by rw [← hz0', ← hz1', ← hz2', ← hz3']; rfl)
      clear hz0' hz1' hz2' hz3' e2 e3 hr
      have HR2 := Lib.hid hr2
      clear hr2
      have hVb : Below w1.heap.size w1 ((w1.alloc (.cells #[.int .u8 z0, .int .u8 z1, .int .u8 z2, .int .u8 z3] 24)).alloc (.cells #[.slice A n c', .slice A' n' c''] 64)) := ((Below.refl _ w1).alloc (Nat.le_refl _) _).alloc (by simp) _
      have hVk : ((w1.alloc (.cells #[.int .u8 z0, .int .u8 z1, .int .u8 z2, .int .u8 z3] 24)).alloc (.cells #[.slice A n c', .slice A' n' c''] 64)).heap[w1.heap.size]? = some (.cells #[.int .u8 z0, .int .u8 z1, .int .u8 z2, .int .u8 z3] 24 (0, 0)) := (Below.heap_alloc _ _ _ (by simp)).trans (heap_alloc_new w1 _)
      have hVs : ((w1.alloc (.cells #[.int .u8 z0, .int .u8 z1, .int .u8 z2, .int .u8 z3] 24)).alloc (.cells #[.slice A n c', .slice A' n' c''] 64)).heap.size = w1.heap.size + 2 := by simp
      have HRV := Lib.hid (HR1.out.blocks (w' := ((w1.alloc (.cells #[.int .u8 z0, .int .u8 z1, .int .u8 z2, .int .u8 z3] 24)).alloc (.cells #[.slice A n c', .slice A' n' c''] 64))) (hVb.block rb (by omega)) (hVb.block _ (by omega)))
      have hrowV := (hrow1.alloc (.cells #[.int .u8 z0, .int .u8 z1, .int .u8 z2, .int .u8 z3] 24)).alloc (.cells #[.slice A n c', .slice A' n' c''] 64)
      go_wp2_with fail
      generalize ((w1.alloc (.cells #[.int .u8 z0, .int .u8 z1, .int .u8 z2, .int .u8 z3] 24)).alloc (.cells #[.slice A n c', .slice A' n' c''] 64)) = V at *
      have hblV : Below w.heap.size w V := hbl1.trans (hVb.mono hs2)
      refine (HC.out V _ r hblV (HRA.out.kept fun b hb => hVb.block b (HRA.out.lt hb)) HR2.out).mono ?_
      rintro e w2 ⟨rfl, hb2⟩
      have hgV : V.grownBy w2 none := ⟨hb2.os, hb2.tape, hb2.output, hb2.size, fun k hk _ => hb2.block k hk⟩
      have hrow2 : w2.ownsRow (w.heap.size + 1) 24 4 u5 ls.length (ls.flatMap kv) := by
        cases ho : u5.ownBlock with
        | none => exact hrowV.kept hgV (.inl ho)
        | some k => exact hrowV.kept hgV (.inr (by rw [ho]; simp))
      have hV2 := hb2.size
      have HRW := Lib.hid (HRV.out.blocks (w' := w2) (hb2.block rb (by omega)) (hb2.block _ (by omega)))
      have hbl2 : Below w.heap.size w w2 := hblV.trans (hb2.mono (by omega))
      have hK2 := (hb2.block w1.heap.size (by omega)).trans hVk
      have k0 : w2.cell? ⟨w1.heap.size, 0, none⟩ = some (.int .u8 z0) := by simp [World.cell?, hK2]
      have k1 : w2.cell? ⟨w1.heap.size, 1, none⟩ = some (.int .u8 z1) := by simp [World.cell?, hK2]
      have k2 : w2.cell? ⟨w1.heap.size, 2, none⟩ = some (.int .u8 z2) := by simp [World.cell?, hK2]
      have k3 : w2.cell? ⟨w1.heap.size, 3, none⟩ = some (.int .u8 z3) := by simp [World.cell?, hK2]
      have hs4 : w.heap.size + 1 ≤ w2.heap.size := by omega
      have HL3 := Lib.hid hlt
      clear hVb hVk hVs hrowV hblV hrow1 hbl1 hK2 hgV hb2 hlt hen
      obtain ⟨qr, hqr⟩ : ∃ b, q r = b := ⟨_, rfl⟩
      cases qr with
      | true =>
        have HT2 := Lib.hid (HG.out.take (x := x) trivial hlx (by rw [HX.out]; rfl) (by rw [HQ.out]; exact hqr))
        rw [hqr]
        clear hqr
        go_wp2_with (first
          | (at_builtin; refine wpList_append_own_at _ rfl _ _ 42 rfl (w.heap.size + 1) 24 i0 _ 4 4 Try.underlying42 hi hz0 hz1 hz2 rfl (by decide) _ ls.length _ rfl (hrow2.alloc _) ⟨w2.heap.size, 0, none⟩ 1 1 [.int .u8 z0, .int .u8 z1, .int .u8 z2, .int .u8 z3] rfl rfl (World.news_of_block (cs := #[.int .u8 z0, .int .u8 z1, .int .u8 z2, .int .u8 z3]) (t := 24) (fr := (0, 0)) (heap_alloc_new w2 _)) (by intro u hu; simp at hu; rcases hu with rfl | rfl | rfl | rfl <;> rfl) (by simp only [maxLen]; omega) (by omega) (by simp; omega) ?_; intro v' w3 hown' hgrow _ _)
          | fail)
        have hb3 : Below w.heap.size w w3 := (hbl2.alloc hbl2.size _).grown hgrow (by have := hbl2.size; simp; omega) (fun k e => by have := (hrow2.lt k e).1; omega)
        have hkb : ∀ b, b < w.heap.size + 1 → w3.heap[b]? = w2.heap[b]? := fun b hb => (hgrow.block b (by simp; omega) (fun e => by have := (hrow2.lt b e.symm).1; omega)).trans (Below.heap_alloc w2 _ b (by omega))
        have HR3 := Lib.hid (HRW.out.blocks (hkb rb (by omega)) (hkb w.heap.size (by omega)))
        have hsz2 : w.heap.size + 1 ≤ w3.heap.size := by have := hgrow.size; simp at this; omega
        go_roundw
        case rel => exact ⟨_, cnt1, ls ++ [x], HR3, by rw [List.length_append, List.flatMap_append, List.flatMap_cons, List.flatMap_nil, List.append_nil, HK.out]; exact hown', HT2, by simp; have := HL3.out; omega, hb3, hsz2⟩
        case measure => rw [RangeAt.left_eq HR3.out, hle1.out]; exact HL3.out
      | false =>
        have HT2 := Lib.hid (HG.out.skip (x := x) (by rw [HQ.out]; exact hqr))
        rw [hqr]
        clear hqr
        go_wp2_with fail
        go_roundw
        case rel => exact ⟨_, cnt1, ls, HRW, hrow2, HT2, by have := HL3.out; omega, hbl2, hs4⟩
        case measure => rw [RangeAt.left_eq HRW.out, hle1.out]; exact HL3.out
end Go.Proofs.Ytnfodidfhnofkaa

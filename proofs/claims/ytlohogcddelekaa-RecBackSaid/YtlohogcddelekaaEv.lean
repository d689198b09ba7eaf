/- The walk of the statement RecBack: it returns true, for every input. -/
import Derived.Test.YtlohogcddelekaaEq
import Derived.Test.YtlohogcddelekaaEu
namespace Go.Proofs.Ytlohogcddelekaa
open Go.RowKit Go.Deep
set_option linter.unusedVariables false

theorem Owns.goodAt {B : Nat} {w : World} {A : Option Addr} {l c : Nat} {zs : List Int} (h : Owns B w (.slice A l c) zs) : Good A c zs w := by
  obtain ⟨A', c', e, g⟩ := h.good
  injection e with e1 e2 e3
  subst e1 e3
  exact g
theorem endsN_zero (L : List RecD) : endsN L 0 = 0 := by simp [endsN, joinL]
theorem endsN_all (L : List RecD) : endsN L L.length = (joinL L).length := by simp [endsN]
set_option maxRecDepth 100000 in
set_option maxHeartbeats 1000000 in
theorem recBack_long (A : Option Addr) (l c : Nat) (cut : Int) (h : 60 < l) (m : l ≤ 9223372036854775807) (w : World) :
    Calls Try.prog 4 #[.slice A l c, .int .i64 cut] w fun e w' => e = .returned (.bool true) ∧ Below w.heap.size w w' := by
  have c0 : ∀ W, Calls Try.prog 8 #[] W fun e w' => e = .returned (.bool true) ∧ Below W.heap.size W w' := fun W => alive_any W
  have hd : decide ((60 : Int) < (l : Int)) = true := by simp; omega
  go_enter Try.func4, Try.ntmps4
  go_wp2_with fail
  (with_reducible refine (c0 _).mono ?_)
  rintro e w1 ⟨rfl, k1⟩
  go_wp2
  go_ret
  exact ⟨rfl, k1⟩
set_option maxRecDepth 100000 in
set_option maxHeartbeats 8000000 in
theorem recBack_a (A : Option Addr) (l c cN : Nat) (rs : List RecD) (cut : Int) (hl : rs.length = l) (h60 : l ≤ 60) (ok : ∀ r ∈ rs, okR r) (hcN : cN = (joinL (rs.filter rightB)).length) (hneg : cut < 0) (w : World) (g : GoodR A c rs w) :
    Calls Try.prog 4 #[.slice A l c, .int .i64 cut] w fun e w' => e = .returned (.bool true) ∧ Below w.heap.size w w' := by
  have c0 : ∀ W, Calls Try.prog 8 #[] W fun e w' => e = .returned (.bool true) ∧ Below W.heap.size W w' := fun W => alive_any W
  have hd : decide ((60 : Int) < (l : Int)) = false := by simp; omega
  have HL := Lib.hid hl
  have HC := Lib.hid hcN
  clear hcN
  have HXX := Lib.hid hneg
  go_enter Try.func4, Try.ntmps4
  go_wp2_with fail
  (with_reducible refine (c0 _).mono ?_)
  rintro e w0 ⟨rfl, k0⟩
  clear c0
  go_wp2
  go_loopw [5, 6, 7, 8] (fun v5 v6 v7 i wr => ∃ k : Nat, k ≤ l ∧ i = .int .i64 k ∧ Bk w.heap.size w wr v5 v6 v7 ((rs.take k).filter rightB)) (fun _ _ _ i _ => l - (intOf i).toNat)
  case atStart => exact ⟨0, Nat.zero_le _, rfl, bk_start w w0 k0⟩
  case round =>
    obtain ⟨k, hk, rfl, hbk⟩ := hrel
    by_cases hlt : k < l
    · have hkl : k < rs.length := by omega
      have hxs := List.take_succ_eq_append_getElem hkl
      have okr := ok _ (List.getElem_mem hkl)
      obtain ⟨b, off, rfl, hbl, hro⟩ := (g.below hbk.b).cells k hkl
      have hf : (rs.take (k + 1)).filter rightB = (rs.take k).filter rightB ++ (if rightB rs[k] then [rs[k]] else []) := by
        rw [hxs, List.filter_append]
        simp [List.filter_cons]
      have hLl : ((rs.take k).filter rightB).length ≤ 60 := by
        have h1 := List.length_filter_le rightB (rs.take k)
        rw [List.length_take] at h1
        omega
      have HF := Lib.hid hf
      clear hxs hf
      generalize hr0 : rs[k] = r at *
      clear hr0 hkl
      generalize (rs.take k).filter rightB = L at *
      have hjl := joinL_le L
      have q0 : wr.cell? ⟨b, off + k * 11, none⟩ = some (.int .i64 r.kind) := hro 0 _ rfl
      have q1 : wr.cell? ⟨b, off + k * 11 + 1, none⟩ = some (.int .i64 r.tx) := hro 1 _ rfl
      have q2 : wr.cell? ⟨b, off + k * 11 + 2, none⟩ = some (.int .u16 r.mask) := hro 2 _ rfl
      have q3 : wr.cell? ⟨b, off + k * 11 + 3, none⟩ = some (.int .u8 r.k0) := hro 3 _ rfl
      have q4 : wr.cell? ⟨b, off + k * 11 + 4, none⟩ = some (.int .u8 r.k1) := hro 4 _ rfl
      have q5 : wr.cell? ⟨b, off + k * 11 + 5, none⟩ = some (.int .u8 r.k2) := hro 5 _ rfl
      have q6 : wr.cell? ⟨b, off + k * 11 + 6, none⟩ = some (.int .u8 r.k3) := hro 6 _ rfl
      have q7 : wr.cell? ⟨b, off + k * 11 + 7, none⟩ = some (.bool r.oT) := hro 7 _ rfl
      have q8 : wr.cell? ⟨b, off + k * 11 + 8, none⟩ = some (.int .i64 r.oN) := hro 8 _ rfl
      have q9 : wr.cell? ⟨b, off + k * 11 + 9, none⟩ = some (.bool r.nT) := hro 9 _ rfl
      have q10 : wr.cell? ⟨b, off + k * 11 + 10, none⟩ = some (.int .i64 r.nN) := hro 10 _ rfl
      cases hr : rightB r with
      | false =>
        have F1 : ∀ W, Calls Try.prog 16 #[.agg #[.int .i64 r.kind, .int .i64 r.tx, .int .u16 r.mask, .int .u8 r.k0, .int .u8 r.k1, .int .u8 r.k2, .int .u8 r.k3, .bool r.oT, .int .i64 r.oN, .bool r.nT, .int .i64 r.nN]] W fun e w' => e = .returned (.tuple #[.slice none 0 0, .bool false]) ∧ Below W.heap.size W w' := fun W => enc_no r hr W
        have F2 : ∀ W, Calls Try.prog 18 #[.agg #[.int .i64 r.kind, .int .i64 r.tx, .int .u16 r.mask, .int .u8 r.k0, .int .u8 r.k1, .int .u8 r.k2, .int .u8 r.k3, .bool r.oT, .int .i64 r.oN, .bool r.nT, .int .i64 r.nN]] W fun e w' => e = .returned (.bool false) ∧ Below W.heap.size W w' := fun W => right_any r false hr W
        have HS : Hid ((rs.take (k + 1)).filter rightB = L) := Lib.hid (by rw [HF.out, hr]; simp)
        clear HF hjl
        go_wp2_with fail
        (with_reducible refine (F1 _).mono ?_)
        rintro e w1 ⟨rfl, k1⟩
        have hr1 := hro.below k1 hbl
        clear q0 q1 q2 q3 q4 q5 q6 q7 q8 q9 q10
        have q0 : w1.cell? ⟨b, off + k * 11, none⟩ = some (.int .i64 r.kind) := hr1 0 _ rfl
        have q1 : w1.cell? ⟨b, off + k * 11 + 1, none⟩ = some (.int .i64 r.tx) := hr1 1 _ rfl
        have q2 : w1.cell? ⟨b, off + k * 11 + 2, none⟩ = some (.int .u16 r.mask) := hr1 2 _ rfl
        have q3 : w1.cell? ⟨b, off + k * 11 + 3, none⟩ = some (.int .u8 r.k0) := hr1 3 _ rfl
        have q4 : w1.cell? ⟨b, off + k * 11 + 4, none⟩ = some (.int .u8 r.k1) := hr1 4 _ rfl
        have q5 : w1.cell? ⟨b, off + k * 11 + 5, none⟩ = some (.int .u8 r.k2) := hr1 5 _ rfl
        have q6 : w1.cell? ⟨b, off + k * 11 + 6, none⟩ = some (.int .u8 r.k3) := hr1 6 _ rfl
        have q7 : w1.cell? ⟨b, off + k * 11 + 7, none⟩ = some (.bool r.oT) := hr1 7 _ rfl
        have q8 : w1.cell? ⟨b, off + k * 11 + 8, none⟩ = some (.int .i64 r.oN) := hr1 8 _ rfl
        have q9 : w1.cell? ⟨b, off + k * 11 + 9, none⟩ = some (.bool r.nT) := hr1 9 _ rfl
        have q10 : w1.cell? ⟨b, off + k * 11 + 10, none⟩ = some (.int .i64 r.nN) := hr1 10 _ rfl
        go_wp2_with fail
        (with_reducible refine (F2 _).mono ?_)
        rintro e w2 ⟨rfl, k2⟩
        have HB := Lib.hid ((hbk.below k1 (Nat.le_refl _)).below k2 (Nat.le_refl _))
        go_wp2
        go_roundw
        case rel => exact ⟨k + 1, by omega, by go_num, by rw [HS.out]; exact HB.out⟩
        case measure => simp [intOf]; omega
      | true =>
        have hb24 := encL_bd r
        obtain ⟨n, hn⟩ : ∃ n, (encL r).length = n := ⟨_, rfl⟩
        have F1 : ∀ W, Calls Try.prog 16 #[.agg #[.int .i64 r.kind, .int .i64 r.tx, .int .u16 r.mask, .int .u8 r.k0, .int .u8 r.k1, .int .u8 r.k2, .int .u8 r.k3, .bool r.oT, .int .i64 r.oN, .bool r.nT, .int .i64 r.nN]] W fun e w' => ∃ A2 c2, e = .returned (.tuple #[.slice A2 n c2, .bool true]) ∧ Owns W.heap.size w' (.slice A2 n c2) (encL r) ∧ Below W.heap.size W w' := fun W => by
          refine (enc_yes r hr okr W).mono ?_
          rintro e w' ⟨v, rfl, o, k⟩
          obtain ⟨A2, c2, rfl, g2⟩ := o.good
          exact ⟨A2, c2, by rw [hn], by rw [← hn]; exact o, k⟩
        have F2 : ∀ W, Calls Try.prog 18 #[.agg #[.int .i64 r.kind, .int .i64 r.tx, .int .u16 r.mask, .int .u8 r.k0, .int .u8 r.k1, .int .u8 r.k2, .int .u8 r.k3, .bool r.oT, .int .i64 r.oN, .bool r.nT, .int .i64 r.nN]] W fun e w' => e = .returned (.bool true) ∧ Below W.heap.size W w' := fun W => right_any r true hr W
        have HS : Hid ((rs.take (k + 1)).filter rightB = L ++ [r]) := Lib.hid (by rw [HF.out, hr]; simp)
        have HES := Lib.hid (endsL_snoc L r)
        have HJS := Lib.hid (joinL_snoc L r)
        rw [hn] at hb24 HES
        have hel := endsL_length L
        have HN := Lib.hid hn
        have HEL := Lib.hid hel
        clear HF hn hel
        obtain ⟨jl, hj⟩ : ∃ jl, (joinL L).length = jl := ⟨_, rfl⟩
        rw [hj] at hjl HES
        have HJ := Lib.hid hj
        clear hj
        go_wp2_with fail
        (with_reducible refine (F1 _).mono ?_)
        rintro e w1 ⟨A9, c9, rfl, o9, k1⟩
        have hr1 := hro.below k1 hbl
        clear q0 q1 q2 q3 q4 q5 q6 q7 q8 q9 q10
        have q0 : w1.cell? ⟨b, off + k * 11, none⟩ = some (.int .i64 r.kind) := hr1 0 _ rfl
        have q1 : w1.cell? ⟨b, off + k * 11 + 1, none⟩ = some (.int .i64 r.tx) := hr1 1 _ rfl
        have q2 : w1.cell? ⟨b, off + k * 11 + 2, none⟩ = some (.int .u16 r.mask) := hr1 2 _ rfl
        have q3 : w1.cell? ⟨b, off + k * 11 + 3, none⟩ = some (.int .u8 r.k0) := hr1 3 _ rfl
        have q4 : w1.cell? ⟨b, off + k * 11 + 4, none⟩ = some (.int .u8 r.k1) := hr1 4 _ rfl
        have q5 : w1.cell? ⟨b, off + k * 11 + 5, none⟩ = some (.int .u8 r.k2) := hr1 5 _ rfl
        have q6 : w1.cell? ⟨b, off + k * 11 + 6, none⟩ = some (.int .u8 r.k3) := hr1 6 _ rfl
        have q7 : w1.cell? ⟨b, off + k * 11 + 7, none⟩ = some (.bool r.oT) := hr1 7 _ rfl
        have q8 : w1.cell? ⟨b, off + k * 11 + 8, none⟩ = some (.int .i64 r.oN) := hr1 8 _ rfl
        have q9 : w1.cell? ⟨b, off + k * 11 + 9, none⟩ = some (.bool r.nT) := hr1 9 _ rfl
        have q10 : w1.cell? ⟨b, off + k * 11 + 10, none⟩ = some (.int .i64 r.nN) := hr1 10 _ rfl
        go_wp2_with fail
        (with_reducible refine (F2 _).mono ?_)
        rintro e w2 ⟨rfl, k2⟩
        have hr2 := hr1.below k2 (Nat.lt_of_lt_of_le hbl k1.size)
        clear q0 q1 q2 q3 q4 q5 q6 q7 q8 q9 q10
        have q0 : w2.cell? ⟨b, off + k * 11, none⟩ = some (.int .i64 r.kind) := hr2 0 _ rfl
        have q1 : w2.cell? ⟨b, off + k * 11 + 1, none⟩ = some (.int .i64 r.tx) := hr2 1 _ rfl
        have q2 : w2.cell? ⟨b, off + k * 11 + 2, none⟩ = some (.int .u16 r.mask) := hr2 2 _ rfl
        have q3 : w2.cell? ⟨b, off + k * 11 + 3, none⟩ = some (.int .u8 r.k0) := hr2 3 _ rfl
        have q4 : w2.cell? ⟨b, off + k * 11 + 4, none⟩ = some (.int .u8 r.k1) := hr2 4 _ rfl
        have q5 : w2.cell? ⟨b, off + k * 11 + 5, none⟩ = some (.int .u8 r.k2) := hr2 5 _ rfl
        have q6 : w2.cell? ⟨b, off + k * 11 + 6, none⟩ = some (.int .u8 r.k3) := hr2 6 _ rfl
        have q7 : w2.cell? ⟨b, off + k * 11 + 7, none⟩ = some (.bool r.oT) := hr2 7 _ rfl
        have q8 : w2.cell? ⟨b, off + k * 11 + 8, none⟩ = some (.int .i64 r.oN) := hr2 8 _ rfl
        have q9 : w2.cell? ⟨b, off + k * 11 + 9, none⟩ = some (.bool r.nT) := hr2 9 _ rfl
        have q10 : w2.cell? ⟨b, off + k * 11 + 10, none⟩ = some (.int .i64 r.nN) := hr2 10 _ rfl
        have bk2 := (hbk.below k1 (Nat.le_refl _)).below k2 (Nat.le_refl _)
        have ha : Below w2.heap.size w2 (w2.alloc (.cells #[.int .i64 r.kind, .int .i64 r.tx, .int .u16 r.mask, .int .u8 r.k0, .int .u8 r.k1, .int .u8 r.k2, .int .u8 r.k3, .bool r.oT, .int .i64 r.oN, .bool r.nT, .int .i64 r.nN] 32)) := (Below.refl _ _).alloc (Nat.le_refl _) _
        have bk3 := bk2.below ha (Nat.le_refl _)
        have o93 := (o9.below k2).below ha
        have hro3 := recO_new w2 r
        clear bk2 hbk o9 hr1 hr2 F1 F2
        go_wp2_with (first
          | (at_builtin; refine wpList_appendRg rfl _ _ rfl w.heap.size _ L rfl bk3.l r w2.heap.size 1 rfl hro3 (by omega) bk3.b.size w bk3.b bk3.n5 ?_; intro v5' w4 o5 n5' gr5 kb4; have n7' := bk3.n7; have e4 := World.ownsRow.kept bk3.e gr5 (rows_ne bk3.e bk3.l (by decide)); have a4 := World.ownsRow.kept bk3.a gr5 (rows_ne bk3.a bk3.l (by decide)); have o94 := World.ownsRow.kept o93 gr5 (rows_ne o93 bk3.l (by decide)); have g9 := Owns.goodAt (zs := encL r) o94; clear o93 ha hro3 bk3 o94 gr5)
          | (at_builtin; refine wpList_appendBg rfl _ _ rfl w.heap.size _ (joinL L) rfl a4 A9 (encL r) n c9 rfl HN.out (by omega) g9 (by rw [HN.out, HJ.out]; omega) kb4.size w kb4 n7' ?_; intro v7' w5 o7 n7'' gr7 kb5; have l5 := World.ownsRow.kept o5 gr7 (rows_ne o5 a4 (by decide)); have e5 := World.ownsRow.kept e4 gr7 (rows_ne e4 a4 (by decide)); obtain ⟨A7, c7, ev7, g7⟩ := o7.good; obtain ⟨t7, ht7⟩ : ∃ t7, jl + n = t7 := ⟨_, rfl⟩; rw [List.length_append, HJ.out, HN.out, ht7] at ev7; have HT7 := Lib.hid ht7; subst ev7; have ht7l : t7 ≤ 2000 := (by omega); clear ht7; have l6 := OwnsR.below (rs := L ++ [r]) l5 ((Below.refl _ _).alloc (Nat.le_refl _) (.cells #[.int .i64 (t7 : Int)] 3)); have e6 := OwnsI.below (es := endsL L) e5 ((Below.refl _ _).alloc (Nat.le_refl _) (.cells #[.int .i64 (t7 : Int)] 3)); have o76 := o7.below ((Below.refl _ _).alloc (Nat.le_refl _) (.cells #[.int .i64 (t7 : Int)] 3)); have kb6 : Below w.heap.size w (w5.alloc (.cells #[.int .i64 (t7 : Int)] 3)) := kb5.alloc kb5.size _; have hc6 : (w5.alloc (.cells #[.int .i64 (t7 : Int)] 3)).cell? ⟨w5.heap.size, 0, none⟩ = some (.int .i64 (t7 : Int)) := cell_of_row _ w5.heap.size 0 _ 3 (0, 0) (heap_alloc_new w5 _); clear o5 e4 a4 gr7 l5 e5 g9 g7 o7 kb5)
          | (at_builtin; refine wpList_appendIg rfl _ _ rfl w.heap.size _ (endsL L) rfl e6 (t7 : Int) w5.heap.size 1 rfl hc6 (by rw [HEL.out]; omega) kb6.size w kb6 ?_; intro v6' w7 o6 gr6 kb7; have l7 := World.ownsRow.kept l6 gr6 (rows_ne l6 e6 (by decide)); have a7 := World.ownsRow.kept o76 gr6 (rows_ne o76 e6 (by decide))))
        go_roundw
        case rel => exact ⟨k + 1, by omega, by go_num, by rw [HS.out]; exact ⟨l7, by rw [HES.out, HT7.out]; exact o6, by rw [HJS.out]; exact a7, kb7, n5', n7''⟩⟩
        case measure => simp [intOf]; omega
    · obtain rfl : k = l := by omega
      have e1 : rs.take k = rs := by rw [← HL.out, List.take_length]
      rw [e1] at hbk
      obtain ⟨L, hLe⟩ : ∃ L, rs.filter rightB = L := ⟨_, rfl⟩
      have hrL : ∀ r ∈ L, rightB r = true := fun r hr => by rw [← hLe] at hr; exact (List.mem_filter.1 hr).2
      have okL : ∀ r ∈ L, okR r := fun r hr => by rw [← hLe] at hr; exact ok r (List.mem_filter.1 hr).1
      have hn60 : L.length ≤ 60 := by
        rw [← hLe]
        have h1 := List.length_filter_le rightB rs
        have h2 := HL.out
        omega
      have hcN := HC.out
      have hx := HXX.out
      rw [hLe] at hbk hcN
      try rw [hLe] at hx
      have hjl := joinL_le L
      have HEL := Lib.hid (endsL_length L)
      clear e1 hLe HC
      obtain ⟨x5, c5, rfl, g5⟩ := hbk.l.there hbk.n5
      obtain ⟨x7, c7, rfl, g7⟩ := hbk.a.there hbk.n7
      obtain ⟨A6, c6, rfl, g6⟩ := hbk.e.ints
      obtain ⟨b6, off6, rfl, hblt6, hc6⟩ := g6 (by rw [HEL.out]; omega)
      have HE6 : Hid (∀ j, j ≤ L.length → wr.cell? ⟨b6, off6 + j, none⟩ = some (.int .i64 ((endsN L j : Nat) : Int))) := Lib.hid (fun j hj => by rw [hc6 j (by rw [HEL.out]; omega), endsL_at L j hj])
      have hblt6 := Lib.hid hblt6
      rw [HEL.out]
      obtain ⟨jl, hjj⟩ : ∃ jl, (joinL L).length = jl := ⟨_, rfl⟩
      rw [hjj] at hjl hcN ⊢
      try rw [hjj] at hx
      obtain ⟨n, hnn⟩ : ∃ n, L.length = n := ⟨_, rfl⟩
      rw [hnn] at hjl hn60 HE6 ⊢
      clear hc6 g6 HEL
      have hcN1 := hcN.symm
      subst hcN1
      have hc5 : n ≤ c5 := by have := g5.2.1; omega
      have hc7 : jl ≤ c7 := by have := g7.2.1; omega
      have l0 := Lib.hid (endsN_zero L)
      have HJJ := Lib.hid hjj
      have HNN := Lib.hid hnn
      have HBK := Lib.hid hbk.b
      clear hjj hnn hbk
      go_wp2
      go_loop [11] (fun x => ∃ j : Nat, j ≤ n ∧ x = .int .i64 j ∧ endsN L j ≤ jl) (fun x => n - (intOf x).toNat)
      case atStart => exact ⟨0, Nat.zero_le _, rfl, by rw [l0.out]; omega⟩
      case round =>
        obtain ⟨j, hjn, rfl, hje⟩ := hrel
        by_cases hlj : j < n
        · have x6 : wr.cell? ⟨b6, off6 + (j + 1), none⟩ = some (.int .i64 ((endsN L (j + 1) : Nat) : Int)) := HE6.out (j + 1) (by omega)
          by_cases hle : endsN L (j + 1) ≤ jl
          · have HLE := Lib.hid hle
            have hd6 : decide (((endsN L (j + 1) : Nat) : Int) ≤ (jl : Int)) = true := by simp; omega
            have hd7 : decide (endsN L (j + 1) ≤ jl) = true := by simp; omega
            generalize hen : endsN L (j + 1) = en at *
            have HEN := Lib.hid hen
            clear hle hje hen
            go_wp2
            go_round
            case rel => exact ⟨j + 1, by omega, by go_num, by rw [HEN.out]; exact HLE.out⟩
            case measure => simp [intOf]; omega
          · have hd6 : decide (((endsN L (j + 1) : Nat) : Int) ≤ (jl : Int)) = false := by simp; omega
            have hd7 : decide (endsN L (j + 1) ≤ jl) = false := by simp; omega
            have hba := back_all L hrL okL jl j (by rw [HNN.out]; omega) hje (fun _ => by omega)
            have HBA := Lib.hid hba
            clear hba
            have hlt7 : ((joinL L).take jl).length = jl := by rw [List.length_take, HJJ.out]; omega
            have F7 : Calls Try.prog 12 #[.slice (some ⟨x7, 0, none⟩) jl c7] wr fun e w' => ∃ A8 c8, e = .returned (.tuple #[.slice A8 j c8, .int .i64 ((endsN L j : Nat) : Int)]) ∧ GoodR A8 c8 (L.take j) w' ∧ Below wr.heap.size wr w' := by
              refine (all_any (some ⟨x7, 0, none⟩) jl c7 ((joinL L).take jl) hlt7 (by omega) ((joinL_bytes L okL).take jl) wr (g7.take jl)).mono ?_
              rintro e w8 ⟨k', v8, hs8, rfl, o8, k8⟩
              have hkj : j = k' := (stops_one hs8 HBA.out.1).symm
              subst hkj
              rw [HBA.out.2.1]
              rw [HBA.out.2.2] at o8
              obtain ⟨A8, c8, rfl, g8⟩ := o8.good
              have hlk : (L.take j).length = j := by rw [List.length_take, HNN.out]; omega
              rw [hlk]
              exact ⟨A8, c8, rfl, g8, k8⟩
            have hlk : (L.take j).length = j := by rw [List.length_take, HNN.out]; omega
            have F8 := fun A8 c8 W h8 h5 => sameR A8 (some ⟨x5, 0, none⟩) (L.take j) j c8 c5 hlk (by omega) W h8 h5
            have x6' : wr.cell? ⟨b6, off6 + j, none⟩ = some (.int .i64 ((endsN L j : Nat) : Int)) := HE6.out j (by omega)
            have hk8c := hblt6.out
            generalize endsN L j = en at *
            have i9 : ((en : Int) == (en : Int)) = true := by simp
            have i8 : (j : Int) < (n : Int) + 1 := by omega
            have i7 : (j : Int) ≤ (n : Int) := by omega
            have i6 : (jl : Int) ≤ (jl : Int) := by omega
            clear HBA hlt7 hlk HE6 hjl g7 HJJ HNN hrL okL hblt6
            go_wp2_with fail
            (with_reducible refine F7.mono ?_)
            rintro e w8 ⟨A8, c8, rfl, g8, k8⟩
            have F8' := F8 A8 c8 w8 g8 ((g5.below k8).take j)
            clear F7 F8
            go_wp2_with fail
            (with_reducible refine F8'.mono ?_)
            rintro e w9 ⟨rfl, k9⟩
            have k89 := below_more k8 k9 (Nat.le_refl _)
            have x9 := (k89.cell (p := ⟨b6, off6 + j, none⟩) hk8c).trans x6'
            have hkw := Lib.hid (below_more HBK.out k89 (Nat.le_refl _))
            clear F8'
            go_wp2
            go_ret
            exact ⟨rfl, hkw.out⟩
        · have hnj : n = j := by omega
          subst hnj
          have hba := back_all L hrL okL jl n (by rw [HNN.out]; omega) hje (fun h => absurd h (by rw [HNN.out]; omega))
          have HBA := Lib.hid hba
          clear hba
          have hlt7 : ((joinL L).take jl).length = jl := by rw [List.length_take, HJJ.out]; omega
          have F7 : Calls Try.prog 12 #[.slice (some ⟨x7, 0, none⟩) jl c7] wr fun e w' => ∃ A8 c8, e = .returned (.tuple #[.slice A8 n c8, .int .i64 ((endsN L n : Nat) : Int)]) ∧ GoodR A8 c8 (L.take n) w' ∧ Below wr.heap.size wr w' := by
            refine (all_any (some ⟨x7, 0, none⟩) jl c7 ((joinL L).take jl) hlt7 (by omega) ((joinL_bytes L okL).take jl) wr (g7.take jl)).mono ?_
            rintro e w8 ⟨k', v8, hs8, rfl, o8, k8⟩
            have hkj : n = k' := (stops_one hs8 HBA.out.1).symm
            subst hkj
            rw [HBA.out.2.1]
            rw [HBA.out.2.2] at o8
            obtain ⟨A8, c8, rfl, g8⟩ := o8.good
            have hlk : (L.take n).length = n := by rw [List.length_take, HNN.out]; omega
            rw [hlk]
            exact ⟨A8, c8, rfl, g8, k8⟩
          have hlk : (L.take n).length = n := by rw [List.length_take, HNN.out]; omega
          have F8 := fun A8 c8 W h8 h5 => sameR A8 (some ⟨x5, 0, none⟩) (L.take n) n c8 c5 hlk (by omega) W h8 h5
          have x6' : wr.cell? ⟨b6, off6 + n, none⟩ = some (.int .i64 ((endsN L n : Nat) : Int)) := HE6.out n (by omega)
          have hk8c := hblt6.out
          generalize endsN L n = en at *
          have i9 : ((en : Int) == (en : Int)) = true := by simp
          have i8 : (n : Int) < (n : Int) + 1 := by omega
          have i7 : (n : Int) ≤ (n : Int) := by omega
          have i6 : (jl : Int) ≤ (jl : Int) := by omega
          clear HBA hlt7 hlk HE6 hjl g7 HJJ HNN hrL okL hblt6
          go_wp2_with fail
          (with_reducible refine F7.mono ?_)
          rintro e w8 ⟨A8, c8, rfl, g8, k8⟩
          have F8' := F8 A8 c8 w8 g8 ((g5.below k8).take n)
          clear F7 F8
          go_wp2_with fail
          (with_reducible refine F8'.mono ?_)
          rintro e w9 ⟨rfl, k9⟩
          have k89 := below_more k8 k9 (Nat.le_refl _)
          have x9 := (k89.cell (p := ⟨b6, off6 + n, none⟩) hk8c).trans x6'
          have hkw := Lib.hid (below_more HBK.out k89 (Nat.le_refl _))
          clear F8'
          go_wp2
          go_ret
          exact ⟨rfl, hkw.out⟩
set_option maxRecDepth 100000 in
set_option maxHeartbeats 8000000 in
theorem recBack_b (A : Option Addr) (l c cN : Nat) (rs : List RecD) (cut : Int) (hl : rs.length = l) (h60 : l ≤ 60) (ok : ∀ r ∈ rs, okR r) (hcN : cN = (joinL (rs.filter rightB)).length) (hpos : 0 ≤ cut) (hgt0 : ((joinL (rs.filter rightB)).length : Int) < cut) (w : World) (g : GoodR A c rs w) :
    Calls Try.prog 4 #[.slice A l c, .int .i64 cut] w fun e w' => e = .returned (.bool true) ∧ Below w.heap.size w w' := by
  have c0 : ∀ W, Calls Try.prog 8 #[] W fun e w' => e = .returned (.bool true) ∧ Below W.heap.size W w' := fun W => alive_any W
  have hd : decide ((60 : Int) < (l : Int)) = false := by simp; omega
  have HL := Lib.hid hl
  have HC := Lib.hid hcN
  clear hcN
  have HXX := Lib.hid hgt0
  clear hgt0
  go_enter Try.func4, Try.ntmps4
  go_wp2_with fail
  (with_reducible refine (c0 _).mono ?_)
  rintro e w0 ⟨rfl, k0⟩
  clear c0
  go_wp2
  go_loopw [5, 6, 7, 8] (fun v5 v6 v7 i wr => ∃ k : Nat, k ≤ l ∧ i = .int .i64 k ∧ Bk w.heap.size w wr v5 v6 v7 ((rs.take k).filter rightB)) (fun _ _ _ i _ => l - (intOf i).toNat)
  case atStart => exact ⟨0, Nat.zero_le _, rfl, bk_start w w0 k0⟩
  case round =>
    obtain ⟨k, hk, rfl, hbk⟩ := hrel
    by_cases hlt : k < l
    · have hkl : k < rs.length := by omega
      have hxs := List.take_succ_eq_append_getElem hkl
      have okr := ok _ (List.getElem_mem hkl)
      obtain ⟨b, off, rfl, hbl, hro⟩ := (g.below hbk.b).cells k hkl
      have hf : (rs.take (k + 1)).filter rightB = (rs.take k).filter rightB ++ (if rightB rs[k] then [rs[k]] else []) := by
        rw [hxs, List.filter_append]
        simp [List.filter_cons]
      have hLl : ((rs.take k).filter rightB).length ≤ 60 := by
        have h1 := List.length_filter_le rightB (rs.take k)
        rw [List.length_take] at h1
        omega
      have HF := Lib.hid hf
      clear hxs hf
      generalize hr0 : rs[k] = r at *
      clear hr0 hkl
      generalize (rs.take k).filter rightB = L at *
      have hjl := joinL_le L
      have q0 : wr.cell? ⟨b, off + k * 11, none⟩ = some (.int .i64 r.kind) := hro 0 _ rfl
      have q1 : wr.cell? ⟨b, off + k * 11 + 1, none⟩ = some (.int .i64 r.tx) := hro 1 _ rfl
      have q2 : wr.cell? ⟨b, off + k * 11 + 2, none⟩ = some (.int .u16 r.mask) := hro 2 _ rfl
      have q3 : wr.cell? ⟨b, off + k * 11 + 3, none⟩ = some (.int .u8 r.k0) := hro 3 _ rfl
      have q4 : wr.cell? ⟨b, off + k * 11 + 4, none⟩ = some (.int .u8 r.k1) := hro 4 _ rfl
      have q5 : wr.cell? ⟨b, off + k * 11 + 5, none⟩ = some (.int .u8 r.k2) := hro 5 _ rfl
      have q6 : wr.cell? ⟨b, off + k * 11 + 6, none⟩ = some (.int .u8 r.k3) := hro 6 _ rfl
      have q7 : wr.cell? ⟨b, off + k * 11 + 7, none⟩ = some (.bool r.oT) := hro 7 _ rfl
      have q8 : wr.cell? ⟨b, off + k * 11 + 8, none⟩ = some (.int .i64 r.oN) := hro 8 _ rfl
      have q9 : wr.cell? ⟨b, off + k * 11 + 9, none⟩ = some (.bool r.nT) := hro 9 _ rfl
      have q10 : wr.cell? ⟨b, off + k * 11 + 10, none⟩ = some (.int .i64 r.nN) := hro 10 _ rfl
      cases hr : rightB r with
      | false =>
        have F1 : ∀ W, Calls Try.prog 16 #[.agg #[.int .i64 r.kind, .int .i64 r.tx, .int .u16 r.mask, .int .u8 r.k0, .int .u8 r.k1, .int .u8 r.k2, .int .u8 r.k3, .bool r.oT, .int .i64 r.oN, .bool r.nT, .int .i64 r.nN]] W fun e w' => e = .returned (.tuple #[.slice none 0 0, .bool false]) ∧ Below W.heap.size W w' := fun W => enc_no r hr W
        have F2 : ∀ W, Calls Try.prog 18 #[.agg #[.int .i64 r.kind, .int .i64 r.tx, .int .u16 r.mask, .int .u8 r.k0, .int .u8 r.k1, .int .u8 r.k2, .int .u8 r.k3, .bool r.oT, .int .i64 r.oN, .bool r.nT, .int .i64 r.nN]] W fun e w' => e = .returned (.bool false) ∧ Below W.heap.size W w' := fun W => right_any r false hr W
        have HS : Hid ((rs.take (k + 1)).filter rightB = L) := Lib.hid (by rw [HF.out, hr]; simp)
        clear HF hjl
        go_wp2_with fail
        (with_reducible refine (F1 _).mono ?_)
        rintro e w1 ⟨rfl, k1⟩
        have hr1 := hro.below k1 hbl
        clear q0 q1 q2 q3 q4 q5 q6 q7 q8 q9 q10
        have q0 : w1.cell? ⟨b, off + k * 11, none⟩ = some (.int .i64 r.kind) := hr1 0 _ rfl
        have q1 : w1.cell? ⟨b, off + k * 11 + 1, none⟩ = some (.int .i64 r.tx) := hr1 1 _ rfl
        have q2 : w1.cell? ⟨b, off + k * 11 + 2, none⟩ = some (.int .u16 r.mask) := hr1 2 _ rfl
        have q3 : w1.cell? ⟨b, off + k * 11 + 3, none⟩ = some (.int .u8 r.k0) := hr1 3 _ rfl
        have q4 : w1.cell? ⟨b, off + k * 11 + 4, none⟩ = some (.int .u8 r.k1) := hr1 4 _ rfl
        have q5 : w1.cell? ⟨b, off + k * 11 + 5, none⟩ = some (.int .u8 r.k2) := hr1 5 _ rfl
        have q6 : w1.cell? ⟨b, off + k * 11 + 6, none⟩ = some (.int .u8 r.k3) := hr1 6 _ rfl
        have q7 : w1.cell? ⟨b, off + k * 11 + 7, none⟩ = some (.bool r.oT) := hr1 7 _ rfl
        have q8 : w1.cell? ⟨b, off + k * 11 + 8, none⟩ = some (.int .i64 r.oN) := hr1 8 _ rfl
        have q9 : w1.cell? ⟨b, off + k * 11 + 9, none⟩ = some (.bool r.nT) := hr1 9 _ rfl
        have q10 : w1.cell? ⟨b, off + k * 11 + 10, none⟩ = some (.int .i64 r.nN) := hr1 10 _ rfl
        go_wp2_with fail
        (with_reducible refine (F2 _).mono ?_)
        rintro e w2 ⟨rfl, k2⟩
        have HB := Lib.hid ((hbk.below k1 (Nat.le_refl _)).below k2 (Nat.le_refl _))
        go_wp2
        go_roundw
        case rel => exact ⟨k + 1, by omega, by go_num, by rw [HS.out]; exact HB.out⟩
        case measure => simp [intOf]; omega
      | true =>
        have hb24 := encL_bd r
        obtain ⟨n, hn⟩ : ∃ n, (encL r).length = n := ⟨_, rfl⟩
        have F1 : ∀ W, Calls Try.prog 16 #[.agg #[.int .i64 r.kind, .int .i64 r.tx, .int .u16 r.mask, .int .u8 r.k0, .int .u8 r.k1, .int .u8 r.k2, .int .u8 r.k3, .bool r.oT, .int .i64 r.oN, .bool r.nT, .int .i64 r.nN]] W fun e w' => ∃ A2 c2, e = .returned (.tuple #[.slice A2 n c2, .bool true]) ∧ Owns W.heap.size w' (.slice A2 n c2) (encL r) ∧ Below W.heap.size W w' := fun W => by
          refine (enc_yes r hr okr W).mono ?_
          rintro e w' ⟨v, rfl, o, k⟩
          obtain ⟨A2, c2, rfl, g2⟩ := o.good
          exact ⟨A2, c2, by rw [hn], by rw [← hn]; exact o, k⟩
        have F2 : ∀ W, Calls Try.prog 18 #[.agg #[.int .i64 r.kind, .int .i64 r.tx, .int .u16 r.mask, .int .u8 r.k0, .int .u8 r.k1, .int .u8 r.k2, .int .u8 r.k3, .bool r.oT, .int .i64 r.oN, .bool r.nT, .int .i64 r.nN]] W fun e w' => e = .returned (.bool true) ∧ Below W.heap.size W w' := fun W => right_any r true hr W
        have HS : Hid ((rs.take (k + 1)).filter rightB = L ++ [r]) := Lib.hid (by rw [HF.out, hr]; simp)
        have HES := Lib.hid (endsL_snoc L r)
        have HJS := Lib.hid (joinL_snoc L r)
        rw [hn] at hb24 HES
        have hel := endsL_length L
        have HN := Lib.hid hn
        have HEL := Lib.hid hel
        clear HF hn hel
        obtain ⟨jl, hj⟩ : ∃ jl, (joinL L).length = jl := ⟨_, rfl⟩
        rw [hj] at hjl HES
        have HJ := Lib.hid hj
        clear hj
        go_wp2_with fail
        (with_reducible refine (F1 _).mono ?_)
        rintro e w1 ⟨A9, c9, rfl, o9, k1⟩
        have hr1 := hro.below k1 hbl
        clear q0 q1 q2 q3 q4 q5 q6 q7 q8 q9 q10
        have q0 : w1.cell? ⟨b, off + k * 11, none⟩ = some (.int .i64 r.kind) := hr1 0 _ rfl
        have q1 : w1.cell? ⟨b, off + k * 11 + 1, none⟩ = some (.int .i64 r.tx) := hr1 1 _ rfl
        have q2 : w1.cell? ⟨b, off + k * 11 + 2, none⟩ = some (.int .u16 r.mask) := hr1 2 _ rfl
        have q3 : w1.cell? ⟨b, off + k * 11 + 3, none⟩ = some (.int .u8 r.k0) := hr1 3 _ rfl
        have q4 : w1.cell? ⟨b, off + k * 11 + 4, none⟩ = some (.int .u8 r.k1) := hr1 4 _ rfl
        have q5 : w1.cell? ⟨b, off + k * 11 + 5, none⟩ = some (.int .u8 r.k2) := hr1 5 _ rfl
        have q6 : w1.cell? ⟨b, off + k * 11 + 6, none⟩ = some (.int .u8 r.k3) := hr1 6 _ rfl
        have q7 : w1.cell? ⟨b, off + k * 11 + 7, none⟩ = some (.bool r.oT) := hr1 7 _ rfl
        have q8 : w1.cell? ⟨b, off + k * 11 + 8, none⟩ = some (.int .i64 r.oN) := hr1 8 _ rfl
        have q9 : w1.cell? ⟨b, off + k * 11 + 9, none⟩ = some (.bool r.nT) := hr1 9 _ rfl
        have q10 : w1.cell? ⟨b, off + k * 11 + 10, none⟩ = some (.int .i64 r.nN) := hr1 10 _ rfl
        go_wp2_with fail
        (with_reducible refine (F2 _).mono ?_)
        rintro e w2 ⟨rfl, k2⟩
        have hr2 := hr1.below k2 (Nat.lt_of_lt_of_le hbl k1.size)
        clear q0 q1 q2 q3 q4 q5 q6 q7 q8 q9 q10
        have q0 : w2.cell? ⟨b, off + k * 11, none⟩ = some (.int .i64 r.kind) := hr2 0 _ rfl
        have q1 : w2.cell? ⟨b, off + k * 11 + 1, none⟩ = some (.int .i64 r.tx) := hr2 1 _ rfl
        have q2 : w2.cell? ⟨b, off + k * 11 + 2, none⟩ = some (.int .u16 r.mask) := hr2 2 _ rfl
        have q3 : w2.cell? ⟨b, off + k * 11 + 3, none⟩ = some (.int .u8 r.k0) := hr2 3 _ rfl
        have q4 : w2.cell? ⟨b, off + k * 11 + 4, none⟩ = some (.int .u8 r.k1) := hr2 4 _ rfl
        have q5 : w2.cell? ⟨b, off + k * 11 + 5, none⟩ = some (.int .u8 r.k2) := hr2 5 _ rfl
        have q6 : w2.cell? ⟨b, off + k * 11 + 6, none⟩ = some (.int .u8 r.k3) := hr2 6 _ rfl
        have q7 : w2.cell? ⟨b, off + k * 11 + 7, none⟩ = some (.bool r.oT) := hr2 7 _ rfl
        have q8 : w2.cell? ⟨b, off + k * 11 + 8, none⟩ = some (.int .i64 r.oN) := hr2 8 _ rfl
        have q9 : w2.cell? ⟨b, off + k * 11 + 9, none⟩ = some (.bool r.nT) := hr2 9 _ rfl
        have q10 : w2.cell? ⟨b, off + k * 11 + 10, none⟩ = some (.int .i64 r.nN) := hr2 10 _ rfl
        have bk2 := (hbk.below k1 (Nat.le_refl _)).below k2 (Nat.le_refl _)
        have ha : Below w2.heap.size w2 (w2.alloc (.cells #[.int .i64 r.kind, .int .i64 r.tx, .int .u16 r.mask, .int .u8 r.k0, .int .u8 r.k1, .int .u8 r.k2, .int .u8 r.k3, .bool r.oT, .int .i64 r.oN, .bool r.nT, .int .i64 r.nN] 32)) := (Below.refl _ _).alloc (Nat.le_refl _) _
        have bk3 := bk2.below ha (Nat.le_refl _)
        have o93 := (o9.below k2).below ha
        have hro3 := recO_new w2 r
        clear bk2 hbk o9 hr1 hr2 F1 F2
        go_wp2_with (first
          | (at_builtin; refine wpList_appendRg rfl _ _ rfl w.heap.size _ L rfl bk3.l r w2.heap.size 1 rfl hro3 (by omega) bk3.b.size w bk3.b bk3.n5 ?_; intro v5' w4 o5 n5' gr5 kb4; have n7' := bk3.n7; have e4 := World.ownsRow.kept bk3.e gr5 (rows_ne bk3.e bk3.l (by decide)); have a4 := World.ownsRow.kept bk3.a gr5 (rows_ne bk3.a bk3.l (by decide)); have o94 := World.ownsRow.kept o93 gr5 (rows_ne o93 bk3.l (by decide)); have g9 := Owns.goodAt (zs := encL r) o94; clear o93 ha hro3 bk3 o94 gr5)
          | (at_builtin; refine wpList_appendBg rfl _ _ rfl w.heap.size _ (joinL L) rfl a4 A9 (encL r) n c9 rfl HN.out (by omega) g9 (by rw [HN.out, HJ.out]; omega) kb4.size w kb4 n7' ?_; intro v7' w5 o7 n7'' gr7 kb5; have l5 := World.ownsRow.kept o5 gr7 (rows_ne o5 a4 (by decide)); have e5 := World.ownsRow.kept e4 gr7 (rows_ne e4 a4 (by decide)); obtain ⟨A7, c7, ev7, g7⟩ := o7.good; obtain ⟨t7, ht7⟩ : ∃ t7, jl + n = t7 := ⟨_, rfl⟩; rw [List.length_append, HJ.out, HN.out, ht7] at ev7; have HT7 := Lib.hid ht7; subst ev7; have ht7l : t7 ≤ 2000 := (by omega); clear ht7; have l6 := OwnsR.below (rs := L ++ [r]) l5 ((Below.refl _ _).alloc (Nat.le_refl _) (.cells #[.int .i64 (t7 : Int)] 3)); have e6 := OwnsI.below (es := endsL L) e5 ((Below.refl _ _).alloc (Nat.le_refl _) (.cells #[.int .i64 (t7 : Int)] 3)); have o76 := o7.below ((Below.refl _ _).alloc (Nat.le_refl _) (.cells #[.int .i64 (t7 : Int)] 3)); have kb6 : Below w.heap.size w (w5.alloc (.cells #[.int .i64 (t7 : Int)] 3)) := kb5.alloc kb5.size _; have hc6 : (w5.alloc (.cells #[.int .i64 (t7 : Int)] 3)).cell? ⟨w5.heap.size, 0, none⟩ = some (.int .i64 (t7 : Int)) := cell_of_row _ w5.heap.size 0 _ 3 (0, 0) (heap_alloc_new w5 _); clear o5 e4 a4 gr7 l5 e5 g9 g7 o7 kb5)
          | (at_builtin; refine wpList_appendIg rfl _ _ rfl w.heap.size _ (endsL L) rfl e6 (t7 : Int) w5.heap.size 1 rfl hc6 (by rw [HEL.out]; omega) kb6.size w kb6 ?_; intro v6' w7 o6 gr6 kb7; have l7 := World.ownsRow.kept l6 gr6 (rows_ne l6 e6 (by decide)); have a7 := World.ownsRow.kept o76 gr6 (rows_ne o76 e6 (by decide))))
        go_roundw
        case rel => exact ⟨k + 1, by omega, by go_num, by rw [HS.out]; exact ⟨l7, by rw [HES.out, HT7.out]; exact o6, by rw [HJS.out]; exact a7, kb7, n5', n7''⟩⟩
        case measure => simp [intOf]; omega
    · obtain rfl : k = l := by omega
      have e1 : rs.take k = rs := by rw [← HL.out, List.take_length]
      rw [e1] at hbk
      obtain ⟨L, hLe⟩ : ∃ L, rs.filter rightB = L := ⟨_, rfl⟩
      have hrL : ∀ r ∈ L, rightB r = true := fun r hr => by rw [← hLe] at hr; exact (List.mem_filter.1 hr).2
      have okL : ∀ r ∈ L, okR r := fun r hr => by rw [← hLe] at hr; exact ok r (List.mem_filter.1 hr).1
      have hn60 : L.length ≤ 60 := by
        rw [← hLe]
        have h1 := List.length_filter_le rightB rs
        have h2 := HL.out
        omega
      have hcN := HC.out
      have hx := HXX.out
      rw [hLe] at hbk hcN
      try rw [hLe] at hx
      have hjl := joinL_le L
      have HEL := Lib.hid (endsL_length L)
      clear e1 hLe HC
      obtain ⟨x5, c5, rfl, g5⟩ := hbk.l.there hbk.n5
      obtain ⟨x7, c7, rfl, g7⟩ := hbk.a.there hbk.n7
      obtain ⟨A6, c6, rfl, g6⟩ := hbk.e.ints
      obtain ⟨b6, off6, rfl, hblt6, hc6⟩ := g6 (by rw [HEL.out]; omega)
      have HE6 : Hid (∀ j, j ≤ L.length → wr.cell? ⟨b6, off6 + j, none⟩ = some (.int .i64 ((endsN L j : Nat) : Int))) := Lib.hid (fun j hj => by rw [hc6 j (by rw [HEL.out]; omega), endsL_at L j hj])
      have hblt6 := Lib.hid hblt6
      rw [HEL.out]
      obtain ⟨jl, hjj⟩ : ∃ jl, (joinL L).length = jl := ⟨_, rfl⟩
      rw [hjj] at hjl hcN ⊢
      try rw [hjj] at hx
      obtain ⟨n, hnn⟩ : ∃ n, L.length = n := ⟨_, rfl⟩
      rw [hnn] at hjl hn60 HE6 ⊢
      clear hc6 g6 HEL
      have hcN1 := hcN.symm
      subst hcN1
      have hc5 : n ≤ c5 := by have := g5.2.1; omega
      have hc7 : jl ≤ c7 := by have := g7.2.1; omega
      have l0 := Lib.hid (endsN_zero L)
      have HJJ := Lib.hid hjj
      have HNN := Lib.hid hnn
      have HBK := Lib.hid hbk.b
      clear hjj hnn hbk
      go_wp2
      go_loop [11] (fun x => ∃ j : Nat, j ≤ n ∧ x = .int .i64 j ∧ endsN L j ≤ jl) (fun x => n - (intOf x).toNat)
      case atStart => exact ⟨0, Nat.zero_le _, rfl, by rw [l0.out]; omega⟩
      case round =>
        obtain ⟨j, hjn, rfl, hje⟩ := hrel
        by_cases hlj : j < n
        · have x6 : wr.cell? ⟨b6, off6 + (j + 1), none⟩ = some (.int .i64 ((endsN L (j + 1) : Nat) : Int)) := HE6.out (j + 1) (by omega)
          by_cases hle : endsN L (j + 1) ≤ jl
          · have HLE := Lib.hid hle
            have hd6 : decide (((endsN L (j + 1) : Nat) : Int) ≤ (jl : Int)) = true := by simp; omega
            have hd7 : decide (endsN L (j + 1) ≤ jl) = true := by simp; omega
            generalize hen : endsN L (j + 1) = en at *
            have HEN := Lib.hid hen
            clear hle hje hen
            go_wp2
            go_round
            case rel => exact ⟨j + 1, by omega, by go_num, by rw [HEN.out]; exact HLE.out⟩
            case measure => simp [intOf]; omega
          · have hd6 : decide (((endsN L (j + 1) : Nat) : Int) ≤ (jl : Int)) = false := by simp; omega
            have hd7 : decide (endsN L (j + 1) ≤ jl) = false := by simp; omega
            have hba := back_all L hrL okL jl j (by rw [HNN.out]; omega) hje (fun _ => by omega)
            have HBA := Lib.hid hba
            clear hba
            have hlt7 : ((joinL L).take jl).length = jl := by rw [List.length_take, HJJ.out]; omega
            have F7 : Calls Try.prog 12 #[.slice (some ⟨x7, 0, none⟩) jl c7] wr fun e w' => ∃ A8 c8, e = .returned (.tuple #[.slice A8 j c8, .int .i64 ((endsN L j : Nat) : Int)]) ∧ GoodR A8 c8 (L.take j) w' ∧ Below wr.heap.size wr w' := by
              refine (all_any (some ⟨x7, 0, none⟩) jl c7 ((joinL L).take jl) hlt7 (by omega) ((joinL_bytes L okL).take jl) wr (g7.take jl)).mono ?_
              rintro e w8 ⟨k', v8, hs8, rfl, o8, k8⟩
              have hkj : j = k' := (stops_one hs8 HBA.out.1).symm
              subst hkj
              rw [HBA.out.2.1]
              rw [HBA.out.2.2] at o8
              obtain ⟨A8, c8, rfl, g8⟩ := o8.good
              have hlk : (L.take j).length = j := by rw [List.length_take, HNN.out]; omega
              rw [hlk]
              exact ⟨A8, c8, rfl, g8, k8⟩
            have hlk : (L.take j).length = j := by rw [List.length_take, HNN.out]; omega
            have F8 := fun A8 c8 W h8 h5 => sameR A8 (some ⟨x5, 0, none⟩) (L.take j) j c8 c5 hlk (by omega) W h8 h5
            have x6' : wr.cell? ⟨b6, off6 + j, none⟩ = some (.int .i64 ((endsN L j : Nat) : Int)) := HE6.out j (by omega)
            have hk8c := hblt6.out
            generalize endsN L j = en at *
            have i9 : ((en : Int) == (en : Int)) = true := by simp
            have i8 : (j : Int) < (n : Int) + 1 := by omega
            have i7 : (j : Int) ≤ (n : Int) := by omega
            have i6 : (jl : Int) ≤ (jl : Int) := by omega
            clear HBA hlt7 hlk HE6 hjl g7 HJJ HNN hrL okL hblt6
            go_wp2_with fail
            (with_reducible refine F7.mono ?_)
            rintro e w8 ⟨A8, c8, rfl, g8, k8⟩
            have F8' := F8 A8 c8 w8 g8 ((g5.below k8).take j)
            clear F7 F8
            go_wp2_with fail
            (with_reducible refine F8'.mono ?_)
            rintro e w9 ⟨rfl, k9⟩
            have k89 := below_more k8 k9 (Nat.le_refl _)
            have x9 := (k89.cell (p := ⟨b6, off6 + j, none⟩) hk8c).trans x6'
            have hkw := Lib.hid (below_more HBK.out k89 (Nat.le_refl _))
            clear F8'
            go_wp2
            go_ret
            exact ⟨rfl, hkw.out⟩
        · have hnj : n = j := by omega
          subst hnj
          have hba := back_all L hrL okL jl n (by rw [HNN.out]; omega) hje (fun h => absurd h (by rw [HNN.out]; omega))
          have HBA := Lib.hid hba
          clear hba
          have hlt7 : ((joinL L).take jl).length = jl := by rw [List.length_take, HJJ.out]; omega
          have F7 : Calls Try.prog 12 #[.slice (some ⟨x7, 0, none⟩) jl c7] wr fun e w' => ∃ A8 c8, e = .returned (.tuple #[.slice A8 n c8, .int .i64 ((endsN L n : Nat) : Int)]) ∧ GoodR A8 c8 (L.take n) w' ∧ Below wr.heap.size wr w' := by
            refine (all_any (some ⟨x7, 0, none⟩) jl c7 ((joinL L).take jl) hlt7 (by omega) ((joinL_bytes L okL).take jl) wr (g7.take jl)).mono ?_
            rintro e w8 ⟨k', v8, hs8, rfl, o8, k8⟩
            have hkj : n = k' := (stops_one hs8 HBA.out.1).symm
            subst hkj
            rw [HBA.out.2.1]
            rw [HBA.out.2.2] at o8
            obtain ⟨A8, c8, rfl, g8⟩ := o8.good
            have hlk : (L.take n).length = n := by rw [List.length_take, HNN.out]; omega
            rw [hlk]
            exact ⟨A8, c8, rfl, g8, k8⟩
          have hlk : (L.take n).length = n := by rw [List.length_take, HNN.out]; omega
          have F8 := fun A8 c8 W h8 h5 => sameR A8 (some ⟨x5, 0, none⟩) (L.take n) n c8 c5 hlk (by omega) W h8 h5
          have x6' : wr.cell? ⟨b6, off6 + n, none⟩ = some (.int .i64 ((endsN L n : Nat) : Int)) := HE6.out n (by omega)
          have hk8c := hblt6.out
          generalize endsN L n = en at *
          have i9 : ((en : Int) == (en : Int)) = true := by simp
          have i8 : (n : Int) < (n : Int) + 1 := by omega
          have i7 : (n : Int) ≤ (n : Int) := by omega
          have i6 : (jl : Int) ≤ (jl : Int) := by omega
          clear HBA hlt7 hlk HE6 hjl g7 HJJ HNN hrL okL hblt6
          go_wp2_with fail
          (with_reducible refine F7.mono ?_)
          rintro e w8 ⟨A8, c8, rfl, g8, k8⟩
          have F8' := F8 A8 c8 w8 g8 ((g5.below k8).take n)
          clear F7 F8
          go_wp2_with fail
          (with_reducible refine F8'.mono ?_)
          rintro e w9 ⟨rfl, k9⟩
          have k89 := below_more k8 k9 (Nat.le_refl _)
          have x9 := (k89.cell (p := ⟨b6, off6 + n, none⟩) hk8c).trans x6'
          have hkw := Lib.hid (below_more HBK.out k89 (Nat.le_refl _))
          clear F8'
          go_wp2
          go_ret
          exact ⟨rfl, hkw.out⟩
set_option maxRecDepth 100000 in
set_option maxHeartbeats 8000000 in
theorem recBack_c (A : Option Addr) (l c cN : Nat) (rs : List RecD) (cut : Int) (hl : rs.length = l) (h60 : l ≤ 60) (ok : ∀ r ∈ rs, okR r) (hcN : cN ≤ (joinL (rs.filter rightB)).length) (hcc : cut = (cN : Int)) (w : World) (g : GoodR A c rs w) :
    Calls Try.prog 4 #[.slice A l c, .int .i64 cut] w fun e w' => e = .returned (.bool true) ∧ Below w.heap.size w w' := by
  have c0 : ∀ W, Calls Try.prog 8 #[] W fun e w' => e = .returned (.bool true) ∧ Below W.heap.size W w' := fun W => alive_any W
  have hd : decide ((60 : Int) < (l : Int)) = false := by simp; omega
  have HL := Lib.hid hl
  have HC := Lib.hid hcN
  clear hcN
  subst hcc
  have HXX := Lib.hid (Int.natCast_nonneg cN)
  go_enter Try.func4, Try.ntmps4
  go_wp2_with fail
  (with_reducible refine (c0 _).mono ?_)
  rintro e w0 ⟨rfl, k0⟩
  clear c0
  go_wp2
  go_loopw [5, 6, 7, 8] (fun v5 v6 v7 i wr => ∃ k : Nat, k ≤ l ∧ i = .int .i64 k ∧ Bk w.heap.size w wr v5 v6 v7 ((rs.take k).filter rightB)) (fun _ _ _ i _ => l - (intOf i).toNat)
  case atStart => exact ⟨0, Nat.zero_le _, rfl, bk_start w w0 k0⟩
  case round =>
    obtain ⟨k, hk, rfl, hbk⟩ := hrel
    by_cases hlt : k < l
    · have hkl : k < rs.length := by omega
      have hxs := List.take_succ_eq_append_getElem hkl
      have okr := ok _ (List.getElem_mem hkl)
      obtain ⟨b, off, rfl, hbl, hro⟩ := (g.below hbk.b).cells k hkl
      have hf : (rs.take (k + 1)).filter rightB = (rs.take k).filter rightB ++ (if rightB rs[k] then [rs[k]] else []) := by
        rw [hxs, List.filter_append]
        simp [List.filter_cons]
      have hLl : ((rs.take k).filter rightB).length ≤ 60 := by
        have h1 := List.length_filter_le rightB (rs.take k)
        rw [List.length_take] at h1
        omega
      have HF := Lib.hid hf
      clear hxs hf
      generalize hr0 : rs[k] = r at *
      clear hr0 hkl
      generalize (rs.take k).filter rightB = L at *
      have hjl := joinL_le L
      have q0 : wr.cell? ⟨b, off + k * 11, none⟩ = some (.int .i64 r.kind) := hro 0 _ rfl
      have q1 : wr.cell? ⟨b, off + k * 11 + 1, none⟩ = some (.int .i64 r.tx) := hro 1 _ rfl
      have q2 : wr.cell? ⟨b, off + k * 11 + 2, none⟩ = some (.int .u16 r.mask) := hro 2 _ rfl
      have q3 : wr.cell? ⟨b, off + k * 11 + 3, none⟩ = some (.int .u8 r.k0) := hro 3 _ rfl
      have q4 : wr.cell? ⟨b, off + k * 11 + 4, none⟩ = some (.int .u8 r.k1) := hro 4 _ rfl
      have q5 : wr.cell? ⟨b, off + k * 11 + 5, none⟩ = some (.int .u8 r.k2) := hro 5 _ rfl
      have q6 : wr.cell? ⟨b, off + k * 11 + 6, none⟩ = some (.int .u8 r.k3) := hro 6 _ rfl
      have q7 : wr.cell? ⟨b, off + k * 11 + 7, none⟩ = some (.bool r.oT) := hro 7 _ rfl
      have q8 : wr.cell? ⟨b, off + k * 11 + 8, none⟩ = some (.int .i64 r.oN) := hro 8 _ rfl
      have q9 : wr.cell? ⟨b, off + k * 11 + 9, none⟩ = some (.bool r.nT) := hro 9 _ rfl
      have q10 : wr.cell? ⟨b, off + k * 11 + 10, none⟩ = some (.int .i64 r.nN) := hro 10 _ rfl
      cases hr : rightB r with
      | false =>
        have F1 : ∀ W, Calls Try.prog 16 #[.agg #[.int .i64 r.kind, .int .i64 r.tx, .int .u16 r.mask, .int .u8 r.k0, .int .u8 r.k1, .int .u8 r.k2, .int .u8 r.k3, .bool r.oT, .int .i64 r.oN, .bool r.nT, .int .i64 r.nN]] W fun e w' => e = .returned (.tuple #[.slice none 0 0, .bool false]) ∧ Below W.heap.size W w' := fun W => enc_no r hr W
        have F2 : ∀ W, Calls Try.prog 18 #[.agg #[.int .i64 r.kind, .int .i64 r.tx, .int .u16 r.mask, .int .u8 r.k0, .int .u8 r.k1, .int .u8 r.k2, .int .u8 r.k3, .bool r.oT, .int .i64 r.oN, .bool r.nT, .int .i64 r.nN]] W fun e w' => e = .returned (.bool false) ∧ Below W.heap.size W w' := fun W => right_any r false hr W
        have HS : Hid ((rs.take (k + 1)).filter rightB = L) := Lib.hid (by rw [HF.out, hr]; simp)
        clear HF hjl
        go_wp2_with fail
        (with_reducible refine (F1 _).mono ?_)
        rintro e w1 ⟨rfl, k1⟩
        have hr1 := hro.below k1 hbl
        clear q0 q1 q2 q3 q4 q5 q6 q7 q8 q9 q10
        have q0 : w1.cell? ⟨b, off + k * 11, none⟩ = some (.int .i64 r.kind) := hr1 0 _ rfl
        have q1 : w1.cell? ⟨b, off + k * 11 + 1, none⟩ = some (.int .i64 r.tx) := hr1 1 _ rfl
        have q2 : w1.cell? ⟨b, off + k * 11 + 2, none⟩ = some (.int .u16 r.mask) := hr1 2 _ rfl
        have q3 : w1.cell? ⟨b, off + k * 11 + 3, none⟩ = some (.int .u8 r.k0) := hr1 3 _ rfl
        have q4 : w1.cell? ⟨b, off + k * 11 + 4, none⟩ = some (.int .u8 r.k1) := hr1 4 _ rfl
        have q5 : w1.cell? ⟨b, off + k * 11 + 5, none⟩ = some (.int .u8 r.k2) := hr1 5 _ rfl
        have q6 : w1.cell? ⟨b, off + k * 11 + 6, none⟩ = some (.int .u8 r.k3) := hr1 6 _ rfl
        have q7 : w1.cell? ⟨b, off + k * 11 + 7, none⟩ = some (.bool r.oT) := hr1 7 _ rfl
        have q8 : w1.cell? ⟨b, off + k * 11 + 8, none⟩ = some (.int .i64 r.oN) := hr1 8 _ rfl
        have q9 : w1.cell? ⟨b, off + k * 11 + 9, none⟩ = some (.bool r.nT) := hr1 9 _ rfl
        have q10 : w1.cell? ⟨b, off + k * 11 + 10, none⟩ = some (.int .i64 r.nN) := hr1 10 _ rfl
        go_wp2_with fail
        (with_reducible refine (F2 _).mono ?_)
        rintro e w2 ⟨rfl, k2⟩
        have HB := Lib.hid ((hbk.below k1 (Nat.le_refl _)).below k2 (Nat.le_refl _))
        go_wp2
        go_roundw
        case rel => exact ⟨k + 1, by omega, by go_num, by rw [HS.out]; exact HB.out⟩
        case measure => simp [intOf]; omega
      | true =>
        have hb24 := encL_bd r
        obtain ⟨n, hn⟩ : ∃ n, (encL r).length = n := ⟨_, rfl⟩
        have F1 : ∀ W, Calls Try.prog 16 #[.agg #[.int .i64 r.kind, .int .i64 r.tx, .int .u16 r.mask, .int .u8 r.k0, .int .u8 r.k1, .int .u8 r.k2, .int .u8 r.k3, .bool r.oT, .int .i64 r.oN, .bool r.nT, .int .i64 r.nN]] W fun e w' => ∃ A2 c2, e = .returned (.tuple #[.slice A2 n c2, .bool true]) ∧ Owns W.heap.size w' (.slice A2 n c2) (encL r) ∧ Below W.heap.size W w' := fun W => by
          refine (enc_yes r hr okr W).mono ?_
          rintro e w' ⟨v, rfl, o, k⟩
          obtain ⟨A2, c2, rfl, g2⟩ := o.good
          exact ⟨A2, c2, by rw [hn], by rw [← hn]; exact o, k⟩
        have F2 : ∀ W, Calls Try.prog 18 #[.agg #[.int .i64 r.kind, .int .i64 r.tx, .int .u16 r.mask, .int .u8 r.k0, .int .u8 r.k1, .int .u8 r.k2, .int .u8 r.k3, .bool r.oT, .int .i64 r.oN, .bool r.nT, .int .i64 r.nN]] W fun e w' => e = .returned (.bool true) ∧ Below W.heap.size W w' := fun W => right_any r true hr W
        have HS : Hid ((rs.take (k + 1)).filter rightB = L ++ [r]) := Lib.hid (by rw [HF.out, hr]; simp)
        have HES := Lib.hid (endsL_snoc L r)
        have HJS := Lib.hid (joinL_snoc L r)
        rw [hn] at hb24 HES
        have hel := endsL_length L
        have HN := Lib.hid hn
        have HEL := Lib.hid hel
        clear HF hn hel
        obtain ⟨jl, hj⟩ : ∃ jl, (joinL L).length = jl := ⟨_, rfl⟩
        rw [hj] at hjl HES
        have HJ := Lib.hid hj
        clear hj
        go_wp2_with fail
        (with_reducible refine (F1 _).mono ?_)
        rintro e w1 ⟨A9, c9, rfl, o9, k1⟩
        have hr1 := hro.below k1 hbl
        clear q0 q1 q2 q3 q4 q5 q6 q7 q8 q9 q10
        have q0 : w1.cell? ⟨b, off + k * 11, none⟩ = some (.int .i64 r.kind) := hr1 0 _ rfl
        have q1 : w1.cell? ⟨b, off + k * 11 + 1, none⟩ = some (.int .i64 r.tx) := hr1 1 _ rfl
        have q2 : w1.cell? ⟨b, off + k * 11 + 2, none⟩ = some (.int .u16 r.mask) := hr1 2 _ rfl
        have q3 : w1.cell? ⟨b, off + k * 11 + 3, none⟩ = some (.int .u8 r.k0) := hr1 3 _ rfl
        have q4 : w1.cell? ⟨b, off + k * 11 + 4, none⟩ = some (.int .u8 r.k1) := hr1 4 _ rfl
        have q5 : w1.cell? ⟨b, off + k * 11 + 5, none⟩ = some (.int .u8 r.k2) := hr1 5 _ rfl
        have q6 : w1.cell? ⟨b, off + k * 11 + 6, none⟩ = some (.int .u8 r.k3) := hr1 6 _ rfl
        have q7 : w1.cell? ⟨b, off + k * 11 + 7, none⟩ = some (.bool r.oT) := hr1 7 _ rfl
        have q8 : w1.cell? ⟨b, off + k * 11 + 8, none⟩ = some (.int .i64 r.oN) := hr1 8 _ rfl
        have q9 : w1.cell? ⟨b, off + k * 11 + 9, none⟩ = some (.bool r.nT) := hr1 9 _ rfl
        have q10 : w1.cell? ⟨b, off + k * 11 + 10, none⟩ = some (.int .i64 r.nN) := hr1 10 _ rfl
        go_wp2_with fail
        (with_reducible refine (F2 _).mono ?_)
        rintro e w2 ⟨rfl, k2⟩
        have hr2 := hr1.below k2 (Nat.lt_of_lt_of_le hbl k1.size)
        clear q0 q1 q2 q3 q4 q5 q6 q7 q8 q9 q10
        have q0 : w2.cell? ⟨b, off + k * 11, none⟩ = some (.int .i64 r.kind) := hr2 0 _ rfl
        have q1 : w2.cell? ⟨b, off + k * 11 + 1, none⟩ = some (.int .i64 r.tx) := hr2 1 _ rfl
        have q2 : w2.cell? ⟨b, off + k * 11 + 2, none⟩ = some (.int .u16 r.mask) := hr2 2 _ rfl
        have q3 : w2.cell? ⟨b, off + k * 11 + 3, none⟩ = some (.int .u8 r.k0) := hr2 3 _ rfl
        have q4 : w2.cell? ⟨b, off + k * 11 + 4, none⟩ = some (.int .u8 r.k1) := hr2 4 _ rfl
        have q5 : w2.cell? ⟨b, off + k * 11 + 5, none⟩ = some (.int .u8 r.k2) := hr2 5 _ rfl
        have q6 : w2.cell? ⟨b, off + k * 11 + 6, none⟩ = some (.int .u8 r.k3) := hr2 6 _ rfl
        have q7 : w2.cell? ⟨b, off + k * 11 + 7, none⟩ = some (.bool r.oT) := hr2 7 _ rfl
        have q8 : w2.cell? ⟨b, off + k * 11 + 8, none⟩ = some (.int .i64 r.oN) := hr2 8 _ rfl
        have q9 : w2.cell? ⟨b, off + k * 11 + 9, none⟩ = some (.bool r.nT) := hr2 9 _ rfl
        have q10 : w2.cell? ⟨b, off + k * 11 + 10, none⟩ = some (.int .i64 r.nN) := hr2 10 _ rfl
        have bk2 := (hbk.below k1 (Nat.le_refl _)).below k2 (Nat.le_refl _)
        have ha : Below w2.heap.size w2 (w2.alloc (.cells #[.int .i64 r.kind, .int .i64 r.tx, .int .u16 r.mask, .int .u8 r.k0, .int .u8 r.k1, .int .u8 r.k2, .int .u8 r.k3, .bool r.oT, .int .i64 r.oN, .bool r.nT, .int .i64 r.nN] 32)) := (Below.refl _ _).alloc (Nat.le_refl _) _
        have bk3 := bk2.below ha (Nat.le_refl _)
        have o93 := (o9.below k2).below ha
        have hro3 := recO_new w2 r
        clear bk2 hbk o9 hr1 hr2 F1 F2
        go_wp2_with (first
          | (at_builtin; refine wpList_appendRg rfl _ _ rfl w.heap.size _ L rfl bk3.l r w2.heap.size 1 rfl hro3 (by omega) bk3.b.size w bk3.b bk3.n5 ?_; intro v5' w4 o5 n5' gr5 kb4; have n7' := bk3.n7; have e4 := World.ownsRow.kept bk3.e gr5 (rows_ne bk3.e bk3.l (by decide)); have a4 := World.ownsRow.kept bk3.a gr5 (rows_ne bk3.a bk3.l (by decide)); have o94 := World.ownsRow.kept o93 gr5 (rows_ne o93 bk3.l (by decide)); have g9 := Owns.goodAt (zs := encL r) o94; clear o93 ha hro3 bk3 o94 gr5)
          | (at_builtin; refine wpList_appendBg rfl _ _ rfl w.heap.size _ (joinL L) rfl a4 A9 (encL r) n c9 rfl HN.out (by omega) g9 (by rw [HN.out, HJ.out]; omega) kb4.size w kb4 n7' ?_; intro v7' w5 o7 n7'' gr7 kb5; have l5 := World.ownsRow.kept o5 gr7 (rows_ne o5 a4 (by decide)); have e5 := World.ownsRow.kept e4 gr7 (rows_ne e4 a4 (by decide)); obtain ⟨A7, c7, ev7, g7⟩ := o7.good; obtain ⟨t7, ht7⟩ : ∃ t7, jl + n = t7 := ⟨_, rfl⟩; rw [List.length_append, HJ.out, HN.out, ht7] at ev7; have HT7 := Lib.hid ht7; subst ev7; have ht7l : t7 ≤ 2000 := (by omega); clear ht7; have l6 := OwnsR.below (rs := L ++ [r]) l5 ((Below.refl _ _).alloc (Nat.le_refl _) (.cells #[.int .i64 (t7 : Int)] 3)); have e6 := OwnsI.below (es := endsL L) e5 ((Below.refl _ _).alloc (Nat.le_refl _) (.cells #[.int .i64 (t7 : Int)] 3)); have o76 := o7.below ((Below.refl _ _).alloc (Nat.le_refl _) (.cells #[.int .i64 (t7 : Int)] 3)); have kb6 : Below w.heap.size w (w5.alloc (.cells #[.int .i64 (t7 : Int)] 3)) := kb5.alloc kb5.size _; have hc6 : (w5.alloc (.cells #[.int .i64 (t7 : Int)] 3)).cell? ⟨w5.heap.size, 0, none⟩ = some (.int .i64 (t7 : Int)) := cell_of_row _ w5.heap.size 0 _ 3 (0, 0) (heap_alloc_new w5 _); clear o5 e4 a4 gr7 l5 e5 g9 g7 o7 kb5)
          | (at_builtin; refine wpList_appendIg rfl _ _ rfl w.heap.size _ (endsL L) rfl e6 (t7 : Int) w5.heap.size 1 rfl hc6 (by rw [HEL.out]; omega) kb6.size w kb6 ?_; intro v6' w7 o6 gr6 kb7; have l7 := World.ownsRow.kept l6 gr6 (rows_ne l6 e6 (by decide)); have a7 := World.ownsRow.kept o76 gr6 (rows_ne o76 e6 (by decide))))
        go_roundw
        case rel => exact ⟨k + 1, by omega, by go_num, by rw [HS.out]; exact ⟨l7, by rw [HES.out, HT7.out]; exact o6, by rw [HJS.out]; exact a7, kb7, n5', n7''⟩⟩
        case measure => simp [intOf]; omega
    · obtain rfl : k = l := by omega
      have e1 : rs.take k = rs := by rw [← HL.out, List.take_length]
      rw [e1] at hbk
      obtain ⟨L, hLe⟩ : ∃ L, rs.filter rightB = L := ⟨_, rfl⟩
      have hrL : ∀ r ∈ L, rightB r = true := fun r hr => by rw [← hLe] at hr; exact (List.mem_filter.1 hr).2
      have okL : ∀ r ∈ L, okR r := fun r hr => by rw [← hLe] at hr; exact ok r (List.mem_filter.1 hr).1
      have hn60 : L.length ≤ 60 := by
        rw [← hLe]
        have h1 := List.length_filter_le rightB rs
        have h2 := HL.out
        omega
      have hcN := HC.out
      have hx := HXX.out
      rw [hLe] at hbk hcN
      try rw [hLe] at hx
      have hjl := joinL_le L
      have HEL := Lib.hid (endsL_length L)
      clear e1 hLe HC
      obtain ⟨x5, c5, rfl, g5⟩ := hbk.l.there hbk.n5
      obtain ⟨x7, c7, rfl, g7⟩ := hbk.a.there hbk.n7
      obtain ⟨A6, c6, rfl, g6⟩ := hbk.e.ints
      obtain ⟨b6, off6, rfl, hblt6, hc6⟩ := g6 (by rw [HEL.out]; omega)
      have HE6 : Hid (∀ j, j ≤ L.length → wr.cell? ⟨b6, off6 + j, none⟩ = some (.int .i64 ((endsN L j : Nat) : Int))) := Lib.hid (fun j hj => by rw [hc6 j (by rw [HEL.out]; omega), endsL_at L j hj])
      have hblt6 := Lib.hid hblt6
      rw [HEL.out]
      obtain ⟨jl, hjj⟩ : ∃ jl, (joinL L).length = jl := ⟨_, rfl⟩
      rw [hjj] at hjl hcN ⊢
      try rw [hjj] at hx
      obtain ⟨n, hnn⟩ : ∃ n, L.length = n := ⟨_, rfl⟩
      rw [hnn] at hjl hn60 HE6 ⊢
      clear hc6 g6 HEL
      skip
      have hc5 : n ≤ c5 := by have := g5.2.1; omega
      have hc7 : jl ≤ c7 := by have := g7.2.1; omega
      have l0 := Lib.hid (endsN_zero L)
      have HJJ := Lib.hid hjj
      have HNN := Lib.hid hnn
      have HBK := Lib.hid hbk.b
      clear hjj hnn hbk
      go_wp2
      go_loop [11] (fun x => ∃ j : Nat, j ≤ n ∧ x = .int .i64 j ∧ endsN L j ≤ cN) (fun x => n - (intOf x).toNat)
      case atStart => exact ⟨0, Nat.zero_le _, rfl, by rw [l0.out]; omega⟩
      case round =>
        obtain ⟨j, hjn, rfl, hje⟩ := hrel
        by_cases hlj : j < n
        · have x6 : wr.cell? ⟨b6, off6 + (j + 1), none⟩ = some (.int .i64 ((endsN L (j + 1) : Nat) : Int)) := HE6.out (j + 1) (by omega)
          by_cases hle : endsN L (j + 1) ≤ cN
          · have HLE := Lib.hid hle
            have hd6 : decide (((endsN L (j + 1) : Nat) : Int) ≤ (cN : Int)) = true := by simp; omega
            have hd7 : decide (endsN L (j + 1) ≤ cN) = true := by simp; omega
            generalize hen : endsN L (j + 1) = en at *
            have HEN := Lib.hid hen
            clear hle hje hen
            go_wp2
            go_round
            case rel => exact ⟨j + 1, by omega, by go_num, by rw [HEN.out]; exact HLE.out⟩
            case measure => simp [intOf]; omega
          · have hd6 : decide (((endsN L (j + 1) : Nat) : Int) ≤ (cN : Int)) = false := by simp; omega
            have hd7 : decide (endsN L (j + 1) ≤ cN) = false := by simp; omega
            have hba := back_all L hrL okL cN j (by rw [HNN.out]; omega) hje (fun _ => by omega)
            have HBA := Lib.hid hba
            clear hba
            have hlt7 : ((joinL L).take cN).length = cN := by rw [List.length_take, HJJ.out]; omega
            have F7 : Calls Try.prog 12 #[.slice (some ⟨x7, 0, none⟩) cN c7] wr fun e w' => ∃ A8 c8, e = .returned (.tuple #[.slice A8 j c8, .int .i64 ((endsN L j : Nat) : Int)]) ∧ GoodR A8 c8 (L.take j) w' ∧ Below wr.heap.size wr w' := by
              refine (all_any (some ⟨x7, 0, none⟩) cN c7 ((joinL L).take cN) hlt7 (by omega) ((joinL_bytes L okL).take cN) wr (g7.take cN)).mono ?_
              rintro e w8 ⟨k', v8, hs8, rfl, o8, k8⟩
              have hkj : j = k' := (stops_one hs8 HBA.out.1).symm
              subst hkj
              rw [HBA.out.2.1]
              rw [HBA.out.2.2] at o8
              obtain ⟨A8, c8, rfl, g8⟩ := o8.good
              have hlk : (L.take j).length = j := by rw [List.length_take, HNN.out]; omega
              rw [hlk]
              exact ⟨A8, c8, rfl, g8, k8⟩
            have hlk : (L.take j).length = j := by rw [List.length_take, HNN.out]; omega
            have F8 := fun A8 c8 W h8 h5 => sameR A8 (some ⟨x5, 0, none⟩) (L.take j) j c8 c5 hlk (by omega) W h8 h5
            have x6' : wr.cell? ⟨b6, off6 + j, none⟩ = some (.int .i64 ((endsN L j : Nat) : Int)) := HE6.out j (by omega)
            have hk8c := hblt6.out
            generalize endsN L j = en at *
            have i9 : ((en : Int) == (en : Int)) = true := by simp
            have i8 : (j : Int) < (n : Int) + 1 := by omega
            have i7 : (j : Int) ≤ (n : Int) := by omega
            have i6 : (cN : Int) ≤ (jl : Int) := by omega
            clear HBA hlt7 hlk HE6 hjl g7 HJJ HNN hrL okL hblt6
            go_wp2_with fail
            (with_reducible refine F7.mono ?_)
            rintro e w8 ⟨A8, c8, rfl, g8, k8⟩
            have F8' := F8 A8 c8 w8 g8 ((g5.below k8).take j)
            clear F7 F8
            go_wp2_with fail
            (with_reducible refine F8'.mono ?_)
            rintro e w9 ⟨rfl, k9⟩
            have k89 := below_more k8 k9 (Nat.le_refl _)
            have x9 := (k89.cell (p := ⟨b6, off6 + j, none⟩) hk8c).trans x6'
            have hkw := Lib.hid (below_more HBK.out k89 (Nat.le_refl _))
            clear F8'
            go_wp2
            go_ret
            exact ⟨rfl, hkw.out⟩
        · have hnj : n = j := by omega
          subst hnj
          have hba := back_all L hrL okL cN n (by rw [HNN.out]; omega) hje (fun h => absurd h (by rw [HNN.out]; omega))
          have HBA := Lib.hid hba
          clear hba
          have hlt7 : ((joinL L).take cN).length = cN := by rw [List.length_take, HJJ.out]; omega
          have F7 : Calls Try.prog 12 #[.slice (some ⟨x7, 0, none⟩) cN c7] wr fun e w' => ∃ A8 c8, e = .returned (.tuple #[.slice A8 n c8, .int .i64 ((endsN L n : Nat) : Int)]) ∧ GoodR A8 c8 (L.take n) w' ∧ Below wr.heap.size wr w' := by
            refine (all_any (some ⟨x7, 0, none⟩) cN c7 ((joinL L).take cN) hlt7 (by omega) ((joinL_bytes L okL).take cN) wr (g7.take cN)).mono ?_
            rintro e w8 ⟨k', v8, hs8, rfl, o8, k8⟩
            have hkj : n = k' := (stops_one hs8 HBA.out.1).symm
            subst hkj
            rw [HBA.out.2.1]
            rw [HBA.out.2.2] at o8
            obtain ⟨A8, c8, rfl, g8⟩ := o8.good
            have hlk : (L.take n).length = n := by rw [List.length_take, HNN.out]; omega
            rw [hlk]
            exact ⟨A8, c8, rfl, g8, k8⟩
          have hlk : (L.take n).length = n := by rw [List.length_take, HNN.out]; omega
          have F8 := fun A8 c8 W h8 h5 => sameR A8 (some ⟨x5, 0, none⟩) (L.take n) n c8 c5 hlk (by omega) W h8 h5
          have x6' : wr.cell? ⟨b6, off6 + n, none⟩ = some (.int .i64 ((endsN L n : Nat) : Int)) := HE6.out n (by omega)
          have hk8c := hblt6.out
          generalize endsN L n = en at *
          have i9 : ((en : Int) == (en : Int)) = true := by simp
          have i8 : (n : Int) < (n : Int) + 1 := by omega
          have i7 : (n : Int) ≤ (n : Int) := by omega
          have i6 : (cN : Int) ≤ (jl : Int) := by omega
          clear HBA hlt7 hlk HE6 hjl g7 HJJ HNN hrL okL hblt6
          go_wp2_with fail
          (with_reducible refine F7.mono ?_)
          rintro e w8 ⟨A8, c8, rfl, g8, k8⟩
          have F8' := F8 A8 c8 w8 g8 ((g5.below k8).take n)
          clear F7 F8
          go_wp2_with fail
          (with_reducible refine F8'.mono ?_)
          rintro e w9 ⟨rfl, k9⟩
          have k89 := below_more k8 k9 (Nat.le_refl _)
          have x9 := (k89.cell (p := ⟨b6, off6 + n, none⟩) hk8c).trans x6'
          have hkw := Lib.hid (below_more HBK.out k89 (Nat.le_refl _))
          clear F8'
          go_wp2
          go_ret
          exact ⟨rfl, hkw.out⟩
theorem recBack_any (A : Option Addr) (l c : Nat) (rs : List RecD) (cut : Int) (_b1 : -9223372036854775808 ≤ cut) (_b2 : cut ≤ 9223372036854775807) (hl : rs.length = l) (m : l ≤ 9223372036854775807) (ok : ∀ r ∈ rs, okR r) (w : World) (g : GoodR A c rs w) :
    Calls Try.prog 4 #[.slice A l c, .int .i64 cut] w fun e w' => e = .returned (.bool true) ∧ Below w.heap.size w w' := by
  by_cases h : l ≤ 60
  · by_cases h1 : cut < 0
    · exact recBack_a A l c _ rs cut hl h ok rfl h1 w g
    · by_cases h2 : ((joinL (rs.filter rightB)).length : Int) < cut
      · exact recBack_b A l c _ rs cut hl h ok rfl (by omega) h2 w g
      · exact recBack_c A l c cut.toNat rs cut hl h ok (by omega) (by omega) w g
  · exact recBack_long A l c cut (by omega) m w
end Go.Proofs.Ytlohogcddelekaa

/- LockCalls. -/
import Derived.Test.YtnfodidfhnofkaaIr
import Derived.Test.YtnfodidfhnofkaaAi
import Derived.Deep.RegionHeld3
import Derived.Deep.CutBlock
namespace Go.Proofs.Ytnfodidfhnofkaa
open Go.RowKit Go.Deep Go.Maps Go.Lib

/-- The cells of a key, of a call, of their own. -/
def keyO (k : KeyT) : Obj := .cells #[.int .u8 (k.a.val : Int), .int .u8 (k.b.val : Int), .int .u8 (k.c.val : Int), .int .u8 (k.d.val : Int)] 24
def callO (c : PCall) : Obj := .cells #[.int .i64 c.what, .int .i64 c.tx, .int .u8 (c.key.a.val : Int), .int .u8 (c.key.b.val : Int), .int .u8 (c.key.c.val : Int), .int .u8 (c.key.d.val : Int), .bool c.ex, .int .i64 c.now] 34
def KK (kb : Nat) (k : KeyT) (b : Nat) (o : Obj) : Prop := b = kb ∧ o = keyO k
def KC (kb : Nat) (k : KeyT) (cb : Nat) (c : PCall) (b : Nat) (o : Obj) : Prop := KK kb k b o ∨ (b = cb ∧ o = callO c)
section
variable {w0 w w' : World} {K : Nat → Obj → Prop} {tb m xb n kb cb : Nat} {st : PS} {rs : RS} {k : KeyT} {c : PCall}
theorem Pr.keyC (h : Pr w0 (KC kb k cb c) tb m st xb n rs w) : KeyC w kb k := h.kept (.inl ⟨rfl, rfl⟩)
theorem Pr.callC (h : Pr w0 (KC kb k cb c) tb m st xb n rs w) : w.heap[cb]? = some (callO c) := h.kept (.inr ⟨rfl, rfl⟩)
theorem call_cells {w : World} {b : Nat} {c : PCall} (h : w.heap[b]? = some (callO c)) : w.cell? ⟨b, 0, none⟩ = some (.int .i64 c.what) ∧ w.cell? ⟨b, 1, none⟩ = some (.int .i64 c.tx) ∧ w.cell? ⟨b, 2, none⟩ = some (.int .u8 (c.key.a.val : Int)) ∧ w.cell? ⟨b, 3, none⟩ = some (.int .u8 (c.key.b.val : Int)) ∧ w.cell? ⟨b, 4, none⟩ = some (.int .u8 (c.key.c.val : Int)) ∧ w.cell? ⟨b, 5, none⟩ = some (.int .u8 (c.key.d.val : Int)) ∧ w.cell? ⟨b, 6, none⟩ = some (.bool c.ex) ∧ w.cell? ⟨b, 7, none⟩ = some (.int .i64 c.now) := by
  refine ⟨?_, ?_, ?_, ?_, ?_, ?_, ?_, ?_⟩ <;> simp only [World.cell?, h] <;> rfl
theorem Pr.start {w w1 w2 : World} {wait : Int} {kb : Nat} {k : KeyT} (hk : KeyC w kb k) (h1 : LockAt w1 (fun b => w.heap.size ≤ b ∧ b < w1.heap.size) tb 0 (newPS wait)) (b1 : Below w.heap.size w w1) (h2 : RefAt w2 (fun b => w1.heap.size ≤ b ∧ b < w2.heap.size) xb 0 (newQ wait)) (b2 : Below w1.heap.size w1 w2) : Pr w (KK kb k) tb 0 (newPS wait) xb 0 (newQ wait) w2 := by
  have hl := hk.lt
  refine ⟨_, _, h1.below b2, h2, fun b e e' => by omega, fun b e => e.1, fun b e => Nat.le_trans b1.size e.1, b1.trans (b2.mono b1.size), ?_⟩
  rintro b o ⟨rfl, rfl⟩
  have hs := b1.size
  exact ⟨(hk.still (b1.trans (b2.mono b1.size)) : KeyC w2 b k), fun e => by omega, fun e => by omega⟩
end
set_option maxRecDepth 100000 in
set_option maxHeartbeats 8000000 in
theorem lockCalls_any (A : Option Addr) (cap : Nat) (cs : List PCall) (wait now : Int) (k : KeyT) (w : World) (hc : CallsIn w.heap.size w A cs) (hok : ∀ c ∈ cs, okC c) (hm : cs.length ≤ maxLen) :
    Calls Try.prog 3 #[.int .i64 wait, .slice A cs.length cap, KV k, .int .i64 now] w fun e w' => e = .returned (.bool true) ∧ Below w.heap.size w w' := by
  have hbig : cs.length ≤ 9223372036854775807 := by unfold maxLen at hm; omega
  have HC := Lib.hid hc
  have HOK := Lib.hid hok
  clear hc hok hm
  obtain ⟨n, hn⟩ : ∃ n, cs.length = n := ⟨_, rfl⟩
  have HN := Lib.hid hn
  rw [hn] at hbig ⊢
  clear hn
  have hbV : Below w.heap.size w (w.alloc (keyO k)) := (Below.refl _ w).alloc (Nat.le_refl _) _
  have hkV : KeyC (w.alloc (keyO k)) w.heap.size k := heap_alloc_new w _
  rw [KV_def]
  go_enter Try.func3, Try.ntmps3
  go_wp2_with fail
  change Calls _ _ _ (w.alloc (keyO k)) _
  generalize (w.alloc (keyO k)) = V at *
  refine (alive_any V).mono ?_
  rintro e w1 ⟨rfl, hb1⟩
  have HB1 := Lib.hid (hbV.trans (hb1.mono hbV.size))
  have HK1 := Lib.hid (hkV.still hb1)
  by_cases h80 : 80 < n
  · have h80z : (80 : Int) < (n : Int) := by omega
    clear hb1 hbV hkV
    go_wp2_with fail
    go_ret
    exact ⟨rfl, HB1.out⟩
  · have h80z : ¬ (80 : Int) < (n : Int) := by omega
    have HC1 := Lib.hid ((HC.out.below HB1.out).more HB1.out.size)
    clear hb1 hbV hkV
    by_cases hw : 1 ≤ wait ∧ wait ≤ 1000
    · have hN := new_ok wait w1 hw.1 hw.2
      have HRN := Lib.hid (fun W => refNew_ok wait W hw.1 hw.2)
      clear hw
      go_wp2_with fail
      refine hN.mono ?_
      rintro e w2 ⟨tb, rfl, hl2, hb2⟩
      have HL2 := Lib.hid hl2
      have HB2 := Lib.hid hb2
      clear hN hl2 hb2
      go_wp2_with fail
      refine (HRN.out w2).mono ?_
      rintro e w3 ⟨xb, rfl, hl3, hb3⟩
      have HP := Lib.hid (Pr.start HK1.out HL2.out HB2.out hl3 hb3)
      clear hl3 hb3
      go_wp2_with fail
      go_loopg [13] n (fun gg s13 wr => ∃ (kk : Nat) (st : PS) (rs : RS), kk ≤ n ∧ n - kk ≤ gg ∧ s13 = .int .i64 kk ∧ Hid (RelQ st rs) ∧ Hid (Pr w1 (KK w.heap.size k) tb (2 * kk) st xb kk rs wr))
      case atStart => exact ⟨0, _, _, Nat.zero_le _, by omega, rfl, Lib.hid (RelQ.new wait), HP⟩
      case round =>
        obtain ⟨kk, st, rs, hkk, hgg, rfl, HR, HPr⟩ := hrel
        by_cases hlt : kk < n
        · have hltz : (kk : Int) < (n : Int) := by omega
          obtain ⟨c, hcc⟩ : ∃ c, cs[kk]? = some c := ⟨_, List.getElem?_eq_getElem (by have := HN.out; omega)⟩
          obtain ⟨b, off, rfl, hbl, hcl⟩ := (HC1.out.below HPr.out.low) (by have := HN.out; omega)
          have hcv := hcl kk c hcc
          have c0 : wr.cell? ⟨b, off + kk * 8, none⟩ = some (.int .i64 c.what) := hcv 0 _ rfl
          have c1 : wr.cell? ⟨b, off + kk * 8 + 1, none⟩ = some (.int .i64 c.tx) := hcv 1 _ rfl
          have c2 : wr.cell? ⟨b, off + kk * 8 + 2, none⟩ = some (.int .u8 (c.key.a.val : Int)) := hcv 2 _ rfl
          have c3 : wr.cell? ⟨b, off + kk * 8 + 3, none⟩ = some (.int .u8 (c.key.b.val : Int)) := hcv 3 _ rfl
          have c4 : wr.cell? ⟨b, off + kk * 8 + 4, none⟩ = some (.int .u8 (c.key.c.val : Int)) := hcv 4 _ rfl
          have c5 : wr.cell? ⟨b, off + kk * 8 + 5, none⟩ = some (.int .u8 (c.key.d.val : Int)) := hcv 5 _ rfl
          have c6 : wr.cell? ⟨b, off + kk * 8 + 6, none⟩ = some (.bool c.ex) := hcv 6 _ rfl
          have c7 : wr.cell? ⟨b, off + kk * 8 + 7, none⟩ = some (.int .i64 c.now) := hcv 7 _ rfl
          have HOC := Lib.hid (HOK.out c (List.mem_of_getElem? hcc))
          have hPW : Pr w1 (KC w.heap.size k wr.heap.size c) tb (2 * kk) st xb kk rs (wr.alloc (callO c)) := HPr.out.box (callO c)
          have hlow := HPr.out.low.size
          clear hcl hcv hcc
          go_upto_block 2 with fail
          change Code.wp _ _ _ _ (wr.alloc (callO c))
          generalize (wr.alloc (callO c)) = W at *
          have HPW := Lib.hid hPW
          clear hPW c0 c1 c2 c3 c4 c5 c6 c7
          generalize wr.heap.size = cb at *
          go_cut [] from 63 to 107 (fun wx => ∃ st' rs', Hid (RelQ st' rs') ∧ Hid (Pr w1 (KC w.heap.size k cb c) tb (2 * (kk + 1)) st' xb (kk + 1) rs' wx))
          case first =>
            have HCELL := Lib.hid (show ∀ W' m st n rs, Pr w1 (KC w.heap.size k cb c) tb m st xb n rs W' → (W'.cell? ⟨cb, 1, none⟩ = some (.int .i64 c.tx) ∧ W'.cell? ⟨cb, 2, none⟩ = some (.int .u8 (c.key.a.val : Int)) ∧ W'.cell? ⟨cb, 3, none⟩ = some (.int .u8 (c.key.b.val : Int)) ∧ W'.cell? ⟨cb, 4, none⟩ = some (.int .u8 (c.key.c.val : Int)) ∧ W'.cell? ⟨cb, 5, none⟩ = some (.int .u8 (c.key.d.val : Int)) ∧ W'.cell? ⟨cb, 6, none⟩ = some (.bool c.ex) ∧ W'.cell? ⟨cb, 7, none⟩ = some (.int .i64 c.now)) from fun W' m st n rs h => (call_cells h.callC).2)
            have hbd : Below W.heap.size W W.drew := below_drewN (Below.refl _ W) 1
            by_cases h0 : c.what = 0
            · have hw0 : (c.what == 0) = true := by simp [h0]
              clear h0
              obtain ⟨st', q, hs⟩ : ∃ st' q, askS st c.tx c.key c.ex c.now = (st', q) := ⟨_, _, rfl⟩
              have hq := HR.out.ask c.tx c.key c.ex c.now
              rw [hs] at hq
              obtain ⟨rs', hs'⟩ : ∃ rs', askQ rs c.tx c.key c.ex c.now = (rs', q) := ⟨_, Prod.ext rfl hq.1⟩
              have HR' := Lib.hid (show RelQ st' rs' by have := hq.2; rw [hs'] at this; exact this)
              have G1 := fun (w' : World) (h : Pr w1 (KC w.heap.size k cb c) tb (2 * kk) st xb kk rs w') => h.ask (by omega) hs
              have G2 := fun (w' : World) (h : Pr w1 (KC w.heap.size k cb c) tb (2 * kk + 2) st' xb kk rs w') => h.rask (by omega) hs'
              simp only [KV_def] at G1 G2
              have hne : (q != q) = false := bne_self_eq_false q
              have hPd := HPW.out.still hbd
              have hd0 := HCELL.out _ _ _ _ _ hPd
              have hbl' := some_lt HPW.out.callC
              obtain ⟨f1, f2, f3, f4, f5, f6, f7⟩ := HCELL.out _ _ _ _ _ HPW.out
              clear hs hs' hq hbd
              go_wp2_with fail
              go_region_held3 (fun w' => (w'.cell? ⟨cb, 1, none⟩ = some (.int .i64 c.tx) ∧ w'.cell? ⟨cb, 2, none⟩ = some (.int .u8 (c.key.a.val : Int)) ∧ w'.cell? ⟨cb, 3, none⟩ = some (.int .u8 (c.key.b.val : Int)) ∧ w'.cell? ⟨cb, 4, none⟩ = some (.int .u8 (c.key.c.val : Int)) ∧ w'.cell? ⟨cb, 5, none⟩ = some (.int .u8 (c.key.d.val : Int)) ∧ w'.cell? ⟨cb, 6, none⟩ = some (.bool c.ex) ∧ w'.cell? ⟨cb, 7, none⟩ = some (.int .i64 c.now)))
                (first | exact hd0 | exact HCELL.out _ _ _ _ _ (by assumption))
                (first
                  | (go_at_call 13; (with_reducible refine (G1 _ (by assumption)).mono ?_); rintro e w' ⟨rfl, hz⟩)
                  | (go_at_call 14; (with_reducible refine (G2 _ (by assumption)).mono ?_); rintro e w' ⟨rfl, hz⟩))
              go_wp2_with fail
              go_meet
              exact ⟨st', rs', HR', Lib.hid ((show Pr w1 (KC w.heap.size k cb c) tb (2 * kk + 2) st' xb (kk + 1) rs' _ by assumption).mono (by omega) (by omega))⟩
            · have hw0 : (c.what == 0) = false := by simp [h0]
              by_cases h1 : c.what = 1
              · have hw1 : (c.what == 1) = true := by simp [h1]
                clear h0 h1 hbd
                obtain ⟨f1, f2, f3, f4, f5, f6, f7⟩ := HCELL.out _ _ _ _ _ HPW.out
                have hbl' := some_lt HPW.out.callC
                go_wp2_with fail
                refine (HPW.out.free (by omega) HOC.out.2.1).mono ?_
                rintro e w5 ⟨rfl, st', hf, hp⟩
                have HF := Lib.hid hf
                have HP5 := Lib.hid hp
                clear f1 f2 f3 f4 f5 f6 f7 hbl' hf hp
                obtain ⟨f1, f2, f3, f4, f5, f6, f7⟩ := HCELL.out _ _ _ _ _ HP5.out
                have hbl' := some_lt HP5.out.callC
                go_wp2_with fail
                refine (HP5.out.rfree (by omega) HR.out HF.out).mono ?_
                rintro e w6 ⟨rfl, rs', hr, hp⟩
                have HR6 := Lib.hid hr
                have HP6 := Lib.hid hp
                clear hr hp f1 f2 f3 f4 f5 f6 f7 hbl'
                go_wp2_with fail
                go_meet
                exact ⟨st', rs', HR6, Lib.hid (HP6.out.mono (by omega) (by omega))⟩
              · have hw1 : (c.what == 1) = false := by simp [h1]
                by_cases h2 : c.what = 2
                · have hw2 : (c.what == 2) = true := by simp [h2]
                  clear h0 h1 h2
                  obtain ⟨st', q, hs⟩ : ∃ st' q, quitS st c.tx = (st', q) := ⟨_, _, rfl⟩
                  have hq := HR.out.quit c.tx
                  rw [hs] at hq
                  obtain ⟨rs', hs'⟩ : ∃ rs', quitQ rs c.tx = (rs', q) := ⟨_, Prod.ext rfl hq.1⟩
                  have HR' := Lib.hid (show RelQ st' rs' by have := hq.2; rw [hs'] at this; exact this)
                  have G1 := fun (w' : World) (h : Pr w1 (KC w.heap.size k cb c) tb (2 * kk) st xb kk rs w') => h.quit (by omega) HOC.out.2.1 hs
                  have G2 := fun (w' : World) (h : Pr w1 (KC w.heap.size k cb c) tb (2 * kk) st' xb kk rs w') => h.rquit (by omega) hs'
                  have hne : (q != q) = false := bne_self_eq_false q
                  have hPd := HPW.out.still hbd
                  have hd0 := (HCELL.out _ _ _ _ _ hPd).1
                  have hbl' := some_lt HPW.out.callC
                  have f1 := (HCELL.out _ _ _ _ _ HPW.out).1
                  clear hs hs' hq hbd
                  go_wp2_with fail
                  go_region_held3 (fun w' => (w'.cell? ⟨cb, 1, none⟩ = some (.int .i64 c.tx)))
                    (first | exact hd0 | exact (HCELL.out _ _ _ _ _ (by assumption)).1)
                    (first
                      | (go_at_call 17; (with_reducible refine (G1 _ (by assumption)).mono ?_); rintro e w' ⟨rfl, hz⟩)
                      | (go_at_call 18; (with_reducible refine (G2 _ (by assumption)).mono ?_); rintro e w' ⟨rfl, hz⟩))
                  go_wp2_with fail
                  go_meet
                  exact ⟨st', rs', HR', Lib.hid ((show Pr w1 (KC w.heap.size k cb c) tb (2 * kk) st' xb kk rs' _ by assumption).mono (by omega) (by omega))⟩
                · have hw2 : (c.what == 2) = false := by simp [h2]
                  clear h0 h1 h2 hbd
                  go_wp2_with fail
                  go_meet
                  exact ⟨st, rs, HR, Lib.hid (HPW.out.mono (by omega) (by omega))⟩
          case rest =>
            obtain ⟨st', rs', HR', HP'⟩ := hcut
            obtain ⟨wa, rfl⟩ : ∃ wa, wa = wc := ⟨_, rfl⟩
            obtain ⟨y, hy⟩ : ∃ y, keyW st' c.tx = y := ⟨_, rfl⟩
            obtain ⟨is, his⟩ : ∃ is, (st'.wish c.tx).isSome = is := ⟨_, rfl⟩
            obtain ⟨r, hr⟩ : ∃ r, howH (st'.row k).hs c.tx = r := ⟨_, rfl⟩
            have HRR := Lib.hid hr
            have G1 := HP'.out.waits HOC.out.2.1
            rw [hy, his, KV_def] at G1
            have HG2 := Lib.hid (show ∀ W', Pr w1 (KC w.heap.size k cb c) tb (2 * (kk + 1)) st' xb (kk + 1) rs' W' → Calls Try.prog 20 #[.pointer (some ⟨xb, 0, none⟩), .int .i64 c.tx] W' fun e w' => e = .returned (.tuple #[KV y, .bool is]) ∧ Below W'.heap.size W' w' from fun W' h => by
              have h0 := h.rwaits (by omega) HR'.out c.tx
              rw [hy, his] at h0
              exact h0)
            clear hy his hr
            have f1 := (call_cells HP'.out.callC).2.1
            have hbl' := some_lt HP'.out.callC
            go_wp2_with fail
            refine G1.mono ?_
            rintro e w5 ⟨rfl, hb5⟩
            have HP5 := Lib.hid ((HP'.out.still hb5).still ((Below.refl _ w5).alloc (Nat.le_refl _) (keyO y)))
            have HK5 := Lib.hid (show KeyC (w5.alloc (keyO y)) w5.heap.size y from heap_alloc_new w5 _)
            clear G1 hb5 f1 hbl'
            go_upto_region 24 with fail
            change Code.wp _ _ _ _ (w5.alloc (keyO y))
            generalize (w5.alloc (keyO y)) = X at *
            generalize w5.heap.size = b1 at *
            have f1 := (call_cells HP5.out.callC).2.1
            have hbl' := some_lt HP5.out.callC
            have G2 := HG2.out _ HP5.out
            rw [KV_def] at G2
            go_wp2_with fail
            refine G2.mono ?_
            rintro e w6 ⟨rfl, hb6⟩
            have hal : Below w6.heap.size w6 (w6.alloc (keyO y)) := (Below.refl _ w6).alloc (Nat.le_refl _) (keyO y)
            have HP6 := Lib.hid ((HP5.out.still hb6).still hal)
            have HK6 := Lib.hid ((HK5.out.still hb6).still hal)
            have HK7 := Lib.hid (show KeyC (w6.alloc (keyO y)) w6.heap.size y from heap_alloc_new w6 _)
            clear G2 hb6 f1 hbl' hal
            go_upto_region 25 with fail
            change Code.wp _ _ _ _ (w6.alloc (keyO y))
            generalize (w6.alloc (keyO y)) = Y at *
            generalize w6.heap.size = b2 at *
            have HCELL := Lib.hid (show ∀ w', Below Y.heap.size Y w' → (w'.cell? ⟨b1, 0, none⟩ = some (.int .u8 (y.a.val : Int)) ∧ w'.cell? ⟨b1, 1, none⟩ = some (.int .u8 (y.b.val : Int)) ∧ w'.cell? ⟨b1, 2, none⟩ = some (.int .u8 (y.c.val : Int)) ∧ w'.cell? ⟨b1, 3, none⟩ = some (.int .u8 (y.d.val : Int)) ∧ w'.cell? ⟨b2, 0, none⟩ = some (.int .u8 (y.a.val : Int)) ∧ w'.cell? ⟨b2, 1, none⟩ = some (.int .u8 (y.b.val : Int)) ∧ w'.cell? ⟨b2, 2, none⟩ = some (.int .u8 (y.c.val : Int)) ∧ w'.cell? ⟨b2, 3, none⟩ = some (.int .u8 (y.d.val : Int)) ∧ w'.cell? ⟨cb, 1, none⟩ = some (.int .i64 c.tx) ∧ w'.cell? ⟨w.heap.size, 0, none⟩ = some (.int .u8 (k.a.val : Int)) ∧ w'.cell? ⟨w.heap.size, 1, none⟩ = some (.int .u8 (k.b.val : Int)) ∧ w'.cell? ⟨w.heap.size, 2, none⟩ = some (.int .u8 (k.c.val : Int)) ∧ w'.cell? ⟨w.heap.size, 3, none⟩ = some (.int .u8 (k.d.val : Int))) from fun w' hb => by
              obtain ⟨p0, p1, p2, p3⟩ := (HK6.out.still hb).cells
              obtain ⟨q0, q1, q2, q3⟩ := (HK7.out.still hb).cells
              obtain ⟨r0, r1, r2, r3⟩ := (HP6.out.still hb).keyC.cells
              exact ⟨p0, p1, p2, p3, q0, q1, q2, q3, (call_cells (HP6.out.still hb).callC).2.1, r0, r1, r2, r3⟩)
            have hk : Below Y.heap.size Y Y.drew := below_drewN (Below.refl _ Y) 1
            have hd0 := HCELL.out _ hk
            obtain ⟨p0, p1, p2, p3, q0, q1, q2, q3, t1, r0, r1, r2, r3⟩ := HCELL.out _ (Below.refl _ Y)
            have hl1 := HK6.out.lt
            have hl2 := HK7.out.lt
            have hl3 := some_lt HP6.out.callC
            have hl4 := HP6.out.keyC.lt
            have hn1 : ∀ W, (binOp .neq 24 (KV y) (KV y)).run Try.prog W = .ok (.bool false) W := fun W => by rw [run_neqKey]; simp
            have hn2 : (is != is) = false := bne_self_eq_false is
            have hn3 : (r != r) = false := bne_self_eq_false r
            have G3 : ∀ W', Below Y.heap.size Y W' → Calls Try.prog 21 #[.pointer (some ⟨tb, 0, none⟩), .int .i64 c.tx, KV k] W' fun e w' => e = .returned (.int .i64 r) ∧ Below Y.heap.size Y w' := fun W' hk => ((HP6.out.still hk).holds HRR.out).mono fun e w' ⟨a, b⟩ => ⟨a, hk.trans (b.mono hk.size)⟩
            have G4 : ∀ W', Below Y.heap.size Y W' → Calls Try.prog 22 #[.pointer (some ⟨xb, 0, none⟩), .int .i64 c.tx, KV k] W' fun e w' => e = .returned (.int .i64 r) ∧ Below Y.heap.size Y w' := fun W' hk => ((HP6.out.still hk).rhow (by omega) HR'.out HRR.out).mono fun e w' ⟨a, b⟩ => ⟨a, hk.trans (b.mono hk.size)⟩
            have G5 : ∀ W', Below Y.heap.size Y W' → Calls Try.prog 24 #[.pointer (some ⟨tb, 0, none⟩), .int .i64 c.tx] W' fun e w' => ∃ v, e = .returned v ∧ KRow st' (fun r => decide (howH r.hs c.tx ≠ 0)) w' v ∧ Below Y.heap.size Y w' := fun W' hk => ((HP6.out.still hk).keys (by omega) c.tx).mono fun e w' ⟨v, a, r, b⟩ => ⟨v, a, r, hk.trans (b.mono hk.size)⟩
            have G6 : ∀ W' v, Below Y.heap.size Y W' → KRow st' (fun r => decide (howH r.hs c.tx ≠ 0)) W' v → Calls Try.prog 25 #[.pointer (some ⟨xb, 0, none⟩), .int .i64 c.tx] W' fun e w' => ∃ v', e = .returned v' ∧ KRow st' (fun r => decide (howH r.hs c.tx ≠ 0)) w' v' ∧ KRow st' (fun r => decide (howH r.hs c.tx ≠ 0)) w' v ∧ Below Y.heap.size Y w' := fun W' v hk hr => ((HP6.out.still hk).rkeys (by omega) HR'.out c.tx).mono fun e w' ⟨v', a, r, b⟩ => ⟨v', a, r, hr.below b, hk.trans (b.mono hk.size)⟩
            have G7 : ∀ W' v v', Below Y.heap.size Y W' → KRow st' (fun r => decide (howH r.hs c.tx ≠ 0)) W' v → KRow st' (fun r => decide (howH r.hs c.tx ≠ 0)) W' v' → Calls Try.prog 23 #[v, v'] W' fun e w' => e = .returned (.bool true) ∧ Below Y.heap.size Y w' := fun W' v v' hk hr hs => (sameK HR'.out (by have := HP6.out.len; omega) hr hs).mono fun e w' ⟨a, b⟩ => ⟨a, hk.trans (b.mono hk.size)⟩
            have G8 : ∀ W', Below Y.heap.size Y W' → Calls Try.prog 26 #[.pointer (some ⟨tb, 0, none⟩)] W' fun e w' => ∃ v, e = .returned v ∧ KRow st' (fun _ => true) w' v ∧ Below Y.heap.size Y w' := fun W' hk => ((HP6.out.still hk).held (by omega)).mono fun e w' ⟨v, a, r, b⟩ => ⟨v, a, r, hk.trans (b.mono hk.size)⟩
            have G9 : ∀ W' v, Below Y.heap.size Y W' → KRow st' (fun _ => true) W' v → Calls Try.prog 27 #[.pointer (some ⟨xb, 0, none⟩)] W' fun e w' => ∃ v', e = .returned v' ∧ KRow st' (fun _ => true) w' v' ∧ KRow st' (fun _ => true) w' v ∧ Below Y.heap.size Y w' := fun W' v hk hr => ((HP6.out.still hk).rheld (by omega) HR'.out).mono fun e w' ⟨v', a, r, b⟩ => ⟨v', a, r, hr.below b, hk.trans (b.mono hk.size)⟩
            have G10 : ∀ W' v v', Below Y.heap.size Y W' → KRow st' (fun _ => true) W' v → KRow st' (fun _ => true) W' v' → Calls Try.prog 23 #[v, v'] W' fun e w' => e = .returned (.bool true) ∧ Below Y.heap.size Y w' := fun W' v v' hk hr hs => (sameK HR'.out (by have := HP6.out.len; omega) hr hs).mono fun e w' ⟨a, b⟩ => ⟨a, hk.trans (b.mono hk.size)⟩
            have G11 : ∀ W', Below Y.heap.size Y W' → Calls Try.prog 29 #[.pointer (some ⟨tb, 0, none⟩)] W' fun e w' => ∃ v, e = .returned v ∧ IRow (TxsL st') w' v ∧ Below Y.heap.size Y w' := fun W' hk => ((HP6.out.still hk).txs (by omega)).mono fun e w' ⟨v, a, r, b⟩ => ⟨v, a, r, hk.trans (b.mono hk.size)⟩
            have G12 : ∀ W' v, Below Y.heap.size Y W' → IRow (TxsL st') W' v → Calls Try.prog 30 #[.pointer (some ⟨xb, 0, none⟩)] W' fun e w' => ∃ v', e = .returned v' ∧ IRow (TxsL st') w' v' ∧ IRow (TxsL st') w' v ∧ Below Y.heap.size Y w' := fun W' v hk hr => ((HP6.out.still hk).rtxs (by omega) HR'.out).mono fun e w' ⟨v', a, r, b⟩ => ⟨v', a, r, hr.below b, hk.trans (b.mono hk.size)⟩
            have G13 : ∀ W' v v', Below Y.heap.size Y W' → IRow (TxsL st') W' v → IRow (TxsL st') W' v' → Calls Try.prog 28 #[v, v'] W' fun e w' => e = .returned (.bool true) ∧ Below Y.heap.size Y w' := fun W' v v' hk hr hs => (sameT HR'.out (by have := HP6.out.len; omega) hr hs).mono fun e w' ⟨a, b⟩ => ⟨a, hk.trans (b.mono hk.size)⟩
            have G14 : ∀ W', Below Y.heap.size Y W' → Calls Try.prog 31 #[.pointer (some ⟨tb, 0, none⟩), .int .i64 now] W' fun e w' => ∃ v, e = .returned v ∧ IRow (LateL st' now) w' v ∧ Below Y.heap.size Y w' := fun W' hk => ((HP6.out.still hk).late (by omega) now).mono fun e w' ⟨v, a, r, b⟩ => ⟨v, a, r, hk.trans (b.mono hk.size)⟩
            have G15 : ∀ W' v, Below Y.heap.size Y W' → IRow (LateL st' now) W' v → Calls Try.prog 32 #[.pointer (some ⟨xb, 0, none⟩), .int .i64 now] W' fun e w' => ∃ v', e = .returned v' ∧ IRow (LateL st' now) w' v' ∧ IRow (LateL st' now) w' v ∧ Below Y.heap.size Y w' := fun W' v hk hr => ((HP6.out.still hk).rlate (by omega) HR'.out now).mono fun e w' ⟨v', a, r, b⟩ => ⟨v', a, r, hr.below b, hk.trans (b.mono hk.size)⟩
            have G16 : ∀ W' v v', Below Y.heap.size Y W' → IRow (LateL st' now) W' v → IRow (LateL st' now) W' v' → Calls Try.prog 28 #[v, v'] W' fun e w' => e = .returned (.bool true) ∧ Below Y.heap.size Y w' := fun W' v v' hk hr hs => (sameL HR'.out (by have := HP6.out.len; omega) hr hs).mono fun e w' ⟨a, b⟩ => ⟨a, hk.trans (b.mono hk.size)⟩
            simp only [KV_def] at hn1 G3 G4
            go_region_held3 (fun w' => (w'.cell? ⟨b1, 0, none⟩ = some (.int .u8 (y.a.val : Int)) ∧ w'.cell? ⟨b1, 1, none⟩ = some (.int .u8 (y.b.val : Int)) ∧ w'.cell? ⟨b1, 2, none⟩ = some (.int .u8 (y.c.val : Int)) ∧ w'.cell? ⟨b1, 3, none⟩ = some (.int .u8 (y.d.val : Int)) ∧ w'.cell? ⟨b2, 0, none⟩ = some (.int .u8 (y.a.val : Int)) ∧ w'.cell? ⟨b2, 1, none⟩ = some (.int .u8 (y.b.val : Int)) ∧ w'.cell? ⟨b2, 2, none⟩ = some (.int .u8 (y.c.val : Int)) ∧ w'.cell? ⟨b2, 3, none⟩ = some (.int .u8 (y.d.val : Int)) ∧ w'.cell? ⟨cb, 1, none⟩ = some (.int .i64 c.tx) ∧ w'.cell? ⟨w.heap.size, 0, none⟩ = some (.int .u8 (k.a.val : Int)) ∧ w'.cell? ⟨w.heap.size, 1, none⟩ = some (.int .u8 (k.b.val : Int)) ∧ w'.cell? ⟨w.heap.size, 2, none⟩ = some (.int .u8 (k.c.val : Int)) ∧ w'.cell? ⟨w.heap.size, 3, none⟩ = some (.int .u8 (k.d.val : Int))))
              (first | exact hd0 | exact HCELL.out _ hk)
              (first
                | (go_at_call 21; (with_reducible refine (G3 _ hk).mono ?_); rintro e w' ⟨rfl, hk⟩)
                | (go_at_call 22; (with_reducible refine (G4 _ hk).mono ?_); rintro e w' ⟨rfl, hk⟩)
                | (go_at_call 24; (with_reducible refine (G5 _ hk).mono ?_); rintro e w' ⟨v, rfl, hr, hk⟩)
                | (go_at_call 25; (with_reducible refine (G6 _ _ hk hr).mono ?_); rintro e w' ⟨v', rfl, hs, hr, hk⟩)
                | (go_at_call 23; (with_reducible refine (G7 _ _ _ hk hr hs).mono ?_); rintro e w' ⟨rfl, hk⟩)
                | (go_at_call 26; (with_reducible refine (G8 _ hk).mono ?_); rintro e w' ⟨v, rfl, hr, hk⟩)
                | (go_at_call 27; (with_reducible refine (G9 _ _ hk hr).mono ?_); rintro e w' ⟨v', rfl, hs, hr, hk⟩)
                | (go_at_call 23; (with_reducible refine (G10 _ _ _ hk hr hs).mono ?_); rintro e w' ⟨rfl, hk⟩)
                | (go_at_call 29; (with_reducible refine (G11 _ hk).mono ?_); rintro e w' ⟨v, rfl, hr, hk⟩)
                | (go_at_call 30; (with_reducible refine (G12 _ _ hk hr).mono ?_); rintro e w' ⟨v', rfl, hs, hr, hk⟩)
                | (go_at_call 28; (with_reducible refine (G13 _ _ _ hk hr hs).mono ?_); rintro e w' ⟨rfl, hk⟩)
                | (go_at_call 31; (with_reducible refine (G14 _ hk).mono ?_); rintro e w' ⟨v, rfl, hr, hk⟩)
                | (go_at_call 32; (with_reducible refine (G15 _ _ hk hr).mono ?_); rintro e w' ⟨v', rfl, hs, hr, hk⟩)
                | (go_at_call 28; (with_reducible refine (G16 _ _ _ hk hr hs).mono ?_); rintro e w' ⟨rfl, hk⟩))
            go_wp2_with fail
            go_roundg (n - (kk + 1))
            case measure => omega
            case rel => exact ⟨kk + 1, st', rs', by omega, by omega, by go_num, HR', Lib.hid ((HP6.out.still hk).less fun b o h => .inl h)⟩
        · obtain rfl : kk = n := by omega
          go_wp2_with fail
          go_ret
          exact ⟨rfl, HB1.out.trans (HPr.out.low.mono HB1.out.size)⟩
    · have hN := new_no wait w1 (by omega)
      have hN2 := refNew_no wait w1 (by omega)
      clear hw
      go_wp2_with fail
      refine hN.mono ?_
      rintro e w2 ⟨rfl, rfl⟩
      go_wp2_with fail
      refine hN2.mono ?_
      rintro e w3 ⟨rfl, rfl⟩
      clear hN hN2
      go_wp2_with fail
      go_loopg [13] 0 (fun gg s13 wr => s13 = .int .i64 0 ∧ w1 = wr)
      case atStart => exact ⟨rfl, rfl⟩
      case round =>
        obtain ⟨rfl, rfl⟩ := hrel
        by_cases h0 : 0 < n
        · have h0z : (0 : Int) < (n : Int) := by omega
          go_wp2_with fail
          go_ret
          exact ⟨rfl, HB1.out⟩
        · have h0z : ¬ (0 : Int) < (n : Int) := by omega
          go_wp2_with fail
          go_ret
          exact ⟨rfl, HB1.out⟩
theorem lockCalls_len (wait : Int) (A : Option Addr) (len cap : Nat) (cs : List PCall) (k : KeyT) (now : Int) (w : World) (hl : cs.length = len) (hc : CallsIn w.heap.size w A cs) (hok : ∀ c ∈ cs, okC c) (hm : len ≤ maxLen) :
    Calls Try.prog 3 #[.int .i64 wait, .slice A len cap, KV k, .int .i64 now] w fun e w' => e = .returned (.bool true) ∧ Below w.heap.size w w' := by
  subst hl
  exact lockCalls_any A cap cs wait now k w hc hok hm
end Go.Proofs.Ytnfodidfhnofkaa

/- alive, of the statements of layer 5: a log of a commit, and a checkpoint. The walk of the statement WalRight, over the bundle of what layer 5's calls answer. The walk of the statement WalRing, over the bundle of what layer 5's calls answer. Lists of records appended to a row of one's own, beside a log; lists of lists of records that come in. Lists of lists of records that come in, for a statement's frame. What comes in at the statements of layer 3: bytes, and lists of calls. What comes in lies within the reach: the weights of a part, of an element (for any program). What comes in at WalCalls: calls on a log; its guard great. -/
import Derived.Test.YtdmkkfpbgpijjaaGreatWbf
import Derived.Test.YtdmkkfpbgpijjaaGreatWan
import Derived.Test.YtdmkkfpbgpijjaaGreatWad
import Derived.Maps.AppendAt
import Derived.Laws.AppendOwnNone
import Derived.Test.YtdmkkfpbgpijjaaGreatWaz
import Derived.Test.YtdmkkfpbgpijjaaGreatWbc
import Derived.ProofKit
import Derived.OpenShut
import Derived.LaidMore
import Derived.Stop.Joined
import Derived.Lib.LaidTab
import Derived.SevenTiedAt
import Derived.Deep.Slices
import Derived.Deep.Fields
import Derived.Test.YtdmkkfpbgpijjaaGreatRows
import Derived.SizedLaws
namespace Go.Proofs.YtdmkkfpbgpijjaaGreat
open Go.RowKit Go.Deep
set_option linter.unusedVariables false

instance recDec : DecidableEq RecD := fun a b => if h : eqR a b = true then isTrue ((eqR_iff a b).1 h) else isFalse fun e => h ((eqR_iff a b).2 e)
instance logDec : DecidableEq LogD := fun a b => if h : a.next = b.next ∧ a.first = b.first ∧ a.sure = b.sure then isTrue (by cases a; cases b; simp_all) else isFalse (by rintro rfl; exact h ⟨rfl, rfl, rfl⟩)
def q5 : RecD := ⟨4, 5, 0, 0, 0, 0, 0, false, 0, false, 0⟩
def q6 : RecD := ⟨5, 6, 0, 0, 0, 0, 0, false, 0, false, 0⟩
def g0 : LogD := ⟨1, 1, 1⟩
def s1 : St := appS 4 g0 (newS 4) [q5]
def g1 : LogD := appL g0 [q5]
def s2 : St := flushS s1
def g2 : LogD := forL g1
def s3 : St := appS 4 g2 s2 [q6]
def g3 : LogD := appL g2 [q6]
def s4 : St := crashS s3 0 9
def g4 : LogD := ⟨2, 1, 1⟩
def s5 : St := chkS 4 g4 s4 [q5]
def g5 : LogD := chkL g4 [q5]
def s6 : St := flushS s5
def g6 : LogD := forL g5
theorem f1_ok : fitsE 4 g0 [q5] 0 0 = 0 := by decide +kernel
theorem f3_ok : fitsE 4 g2 [q6] 0 0 = 0 := by decide +kernel
theorem f5_ok : fitsE 4 g4 [q5] 1 0 = 0 := by decide +kernel
theorem f6_no : fitsE 4 g6 [q5] 0 3 = 15 := by decide +kernel
theorem t4 : tells (nows s4) = some (g4, [q5]) := by decide +kernel
theorem c1_le : (newS 4).cache.length + nOf [q5] ≤ 999 := by decide +kernel
theorem c2_le : s1.cache.length ≤ 1000 := by decide +kernel
theorem c3_le : s2.cache.length + nOf [q6] ≤ 999 := by decide +kernel
theorem c4_le : s3.cache.length ≤ 1000 := by decide +kernel
theorem c5_le : s4.cache.length + nOf [q5] + 1 ≤ 999 := by decide +kernel
theorem c6_le : s5.cache.length ≤ 1000 := by decide +kernel
theorem q5_ok : ∀ r ∈ [q5], okR r := by intro r hr; simp at hr; subst hr; exact ⟨by decide, by decide, by decide, by decide, by decide, ⟨by decide, by decide⟩, ⟨by decide, by decide⟩⟩
theorem q6_ok : ∀ r ∈ [q6], okR r := by intro r hr; simp at hr; subst hr; exact ⟨by decide, by decide, by decide, by decide, by decide, ⟨by decide, by decide⟩, ⟨by decide, by decide⟩⟩
theorem free1 : ((4 : Nat) : Int) - g1.next + g1.sure = 3 := by decide +kernel
theorem free6 : ((4 : Nat) : Int) - g6.next + g6.sure = 2 := by decide +kernel
theorem next6 : ((g6.next : Nat) : Int) = 4 := by decide +kernel
theorem first6 : ((g6.first : Nat) : Int) = 2 := by decide +kernel
theorem sect5 : (if [q5].all rightB then (nOf [q5] : Int) else -1) = 1 := by decide +kernel
theorem i64_0 : isI64 0 := ⟨by decide, by decide⟩
theorem i64_3 : isI64 3 := ⟨by decide, by decide⟩
theorem ok4 : LogOK 4 g4 := ⟨by decide, by decide, by decide, by decide, by decide, by decide⟩
theorem goodR_lit (w : World) (r : RecD) (C : Array Value) (hC : C = (recC r).toArray) : GoodR (some ⟨w.heap.size, 0, none⟩) 1 [r] (w.alloc (.cells C 63)) := by
  subst hC
  refine ⟨fun _ => ⟨w.heap.size, 0, rfl, by simp, fun j x hx i v hv => ?_⟩, by simp, fun e => by cases e⟩
  cases j with
  | zero =>
    simp at hx
    subst hx
    rw [cell_of_row _ _ _ _ 63 (0, 0) (heap_alloc_new w _)]
    simpa using hv
  | succ j => simp at hx
theorem LHas.free {LI : World → (Nat → Prop) → Nat → Nat → LogD → Prop} (S : WalOK LI) {B : Nat} {w0 : World} {X : Nat → Prop} {w : World} {lb db N : Nat} {st : St} {lg : LogD} (h : LHas LI B w0 X w lb db N st lg) (q : Int) (hq : (N : Int) - lg.next + lg.sure = q) : Calls Tryz.prog 21 #[.pointer (some ⟨lb, 0, none⟩)] w fun e w' => e = .returned (.int .i64 q) ∧ Below w.heap.size w w' := by
  obtain ⟨FL, FD, hs, _, _⟩ := h.ex
  rw [← hq]
  exact S.free FL FD lb db N st lg w hs
theorem LHas.next {LI : World → (Nat → Prop) → Nat → Nat → LogD → Prop} (S : WalOK LI) {B : Nat} {w0 : World} {X : Nat → Prop} {w : World} {lb db N : Nat} {st : St} {lg : LogD} (h : LHas LI B w0 X w lb db N st lg) (q : Int) (hq : (lg.next : Int) = q) : Calls Tryz.prog 23 #[.pointer (some ⟨lb, 0, none⟩)] w fun e w' => e = .returned (.int .i64 q) ∧ Below w.heap.size w w' := by
  obtain ⟨FL, FD, hs, _, _⟩ := h.ex
  rw [← hq]
  exact S.next FL FD lb db N st lg w hs
theorem LHas.first {LI : World → (Nat → Prop) → Nat → Nat → LogD → Prop} (S : WalOK LI) {B : Nat} {w0 : World} {X : Nat → Prop} {w : World} {lb db N : Nat} {st : St} {lg : LogD} (h : LHas LI B w0 X w lb db N st lg) (q : Int) (hq : (lg.first : Int) = q) : Calls Tryz.prog 24 #[.pointer (some ⟨lb, 0, none⟩)] w fun e w' => e = .returned (.int .i64 q) ∧ Below w.heap.size w w' := by
  obtain ⟨FL, FD, hs, _, _⟩ := h.ex
  rw [← hq]
  exact S.first FL FD lb db N st lg w hs
theorem dhas_new {N : Nat} {w w1 : World} {db : Nat} (hd : DiskAt w1 (fun k => w.heap.size ≤ k ∧ k < w1.heap.size) db N (newS N)) (k1 : Below w.heap.size w w1) : DHas w.heap.size w (fun _ => False) w1 db N (newS N) := ⟨⟨_, hd, fun k hk => ⟨hk.1, fun e => e⟩⟩, bytes_new N, k1, k1.size⟩
set_option maxRecDepth 100000 in
set_option maxHeartbeats 2000000 in
theorem alive5 {LI : World → (Nat → Prop) → Nat → Nat → LogD → Prop} (S : WalOK LI) (w : World) : Calls Tryz.prog 4 #[] w fun e w' => e = .returned (.bool true) ∧ Below w.heap.size w w' := by
  have F1 := new_ok 4 w (by omega) (by omega)
  unfold NewSays at F1
  have HK := Lib.hid S
  clear S
  go_enter Tryz.func4, Tryz.ntmps4
  go_wp2_with fail
  refine F1.mono ?_
  rintro e w1 ⟨db, rfl, hd, k1⟩
  have h1 := dhas_new hd k1
  clear F1 hd k1
  go_wp2_with fail
  refine (h1.opens HK.out (fun k h => h.elim) (tells_new 4) (logOK_new 4 (by omega))).mono ?_
  rintro e w2 ⟨lb, v, rfl, o2, h2, k2⟩
  obtain ⟨A2, c2, rfl, _⟩ := o2.good
  have h2 : LHas LI w.heap.size w (fun _ => False) w2 lb db 4 (newS 4) g0 := h2.addX HK.out (fun k h => h.elim)
  clear h1 o2 k2
  go_wp2_with fail
  (with_reducible refine (h2.free HK.out 4 (by decide +kernel)).mono ?_)
  rintro e w3 ⟨rfl, k3⟩
  have h3 := h2.keep HK.out k3
  clear h2 k3
  have h3x := h3.addX HK.out (X' := fun k => k = w3.heap.size) (fun k hk => .inr (Nat.le_of_eq hk.symm))
  have ka : Below w3.heap.size w3 (w3.alloc (.cells #[.int .i64 4, .int .i64 5, .int .u16 0, .int .u8 0, .int .u8 0, .int .u8 0, .int .u8 0, .bool false, .int .i64 0, .bool false, .int .i64 0] 63)) := (Below.refl _ _).alloc (Nat.le_refl _) _
  have h4 := h3x.keep HK.out ka
  have gx4 : GoodR (some ⟨w3.heap.size, 0, none⟩) 1 [q5] (w3.alloc (.cells #[.int .i64 4, .int .i64 5, .int .u16 0, .int .u8 0, .int .u8 0, .int .u8 0, .int .u8 0, .bool false, .int .i64 0, .bool false, .int .i64 0] 63)) := goodR_lit w3 q5 _ rfl
  have hx4 : ∀ k, k = w3.heap.size → k < (w3.alloc (.cells #[.int .i64 4, .int .i64 5, .int .u16 0, .int .u8 0, .int .u8 0, .int .u8 0, .int .u8 0, .bool false, .int .i64 0, .bool false, .int .i64 0] 63)).heap.size := fun k hk => by rw [hk]; simp
  clear h3 h3x ka
  go_wp2_with fail
  (with_reducible refine (h4.does hx4 (fun FL FD hs => HK.out.app_yes FL FD lb db 4 (newS 4) g0 (some ⟨w3.heap.size, 0, none⟩) 1 1 [q5] 0 _ hs rfl (by omega) q5_ok gx4 i64_0 c1_le f1_ok)).mono ?_)
  rintro e w5 ⟨rfl, h5, t5⟩
  have h5 : LHas LI w.heap.size w (fun k => k = w3.heap.size) w5 lb db 4 s1 g1 := h5
  have gx5 := t5.goodR gx4 (fun b off e => by cases e; exact ⟨rfl, hx4 _ rfl⟩)
  have hx5 : w3.heap.size < w5.heap.size := Nat.lt_of_lt_of_le (hx4 _ rfl) t5.1
  clear h4 gx4 hx4 t5
  generalize w3.heap.size = xb at *
  go_wp2_with fail
  (with_reducible refine (h5.free HK.out 3 free1).mono ?_)
  rintro e w6 ⟨rfl, k6⟩
  have h6 := h5.keep HK.out k6
  have gx6 := gx5.below k6
  have hx6 : xb < w6.heap.size := Nat.lt_of_lt_of_le hx5 k6.size
  clear h5 gx5 hx5 k6
  go_wp2_with fail
  (with_reducible refine (h6.does (fun k hk => by rw [hk]; exact hx6) (fun FL FD hs => HK.out.force FL FD lb db 4 s1 g1 _ hs c2_le)).mono ?_)
  rintro e w7 ⟨rfl, h7, t7⟩
  have h7 : LHas LI w.heap.size w (fun k => k = xb) w7 lb db 4 s2 g2 := h7
  have gx7 := t7.goodR gx6 (fun b off e => by cases e; exact ⟨rfl, hx6⟩)
  have hx7 : xb < w7.heap.size := Nat.lt_of_lt_of_le hx6 t7.1
  clear h6 gx6 hx6 t7
  have ka : Below w7.heap.size w7 (w7.alloc (.cells #[.int .i64 5, .int .i64 6, .int .u16 0, .int .u8 0, .int .u8 0, .int .u8 0, .int .u8 0, .bool false, .int .i64 0, .bool false, .int .i64 0] 63)) := (Below.refl _ _).alloc (Nat.le_refl _) _
  have h8 := h7.keep HK.out ka
  have gx8 := gx7.below ka
  have hx8 : xb < (w7.alloc (.cells #[.int .i64 5, .int .i64 6, .int .u16 0, .int .u8 0, .int .u8 0, .int .u8 0, .int .u8 0, .bool false, .int .i64 0, .bool false, .int .i64 0] 63)).heap.size := Nat.lt_of_lt_of_le hx7 ka.size
  have gy8 : GoodR (some ⟨w7.heap.size, 0, none⟩) 1 [q6] (w7.alloc (.cells #[.int .i64 5, .int .i64 6, .int .u16 0, .int .u8 0, .int .u8 0, .int .u8 0, .int .u8 0, .bool false, .int .i64 0, .bool false, .int .i64 0] 63)) := goodR_lit w7 q6 _ rfl
  clear h7 gx7 hx7 ka
  go_wp2_with fail
  (with_reducible refine (h8.does (fun k hk => by rw [hk]; exact hx8) (fun FL FD hs => HK.out.app_yes FL FD lb db 4 s2 g2 (some ⟨w7.heap.size, 0, none⟩) 1 1 [q6] 0 _ hs rfl (by omega) q6_ok gy8 i64_0 c3_le f3_ok)).mono ?_)
  rintro e w9 ⟨rfl, h9, t9⟩
  have h9 : LHas LI w.heap.size w (fun k => k = xb) w9 lb db 4 s3 g3 := h9
  have gx9 := t9.goodR gx8 (fun b off e => by cases e; exact ⟨rfl, hx8⟩)
  have hx9 : xb < w9.heap.size := Nat.lt_of_lt_of_le hx8 t9.1
  clear h8 gx8 hx8 t9 gy8
  go_wp2_with fail
  (with_reducible refine (h9.disk.crash (fun k hk => by rw [hk]; exact hx9) 0 9 c4_le).mono ?_)
  rintro e w10 ⟨rfl, h10, t10⟩
  have h10 : DHas w.heap.size w (fun k => k = xb) w10 db 4 s4 := h10
  have gx10 := t10.goodR gx9 (fun b off e => by cases e; exact ⟨rfl, hx9⟩)
  have hx10 : xb < w10.heap.size := Nat.lt_of_lt_of_le hx9 t10.1
  clear h9 gx9 hx9 t10
  go_wp2_with fail
  refine (h10.opens HK.out (fun k hk => by rw [hk]; exact hx10) t4 ok4).mono ?_
  rintro e w11 ⟨lb2, v, rfl, o11, h11, k11⟩
  have hv11 := ownsR_ge o11
  have gx11 := gx10.below k11
  have hx11 : xb < w11.heap.size := Nat.lt_of_lt_of_le hx10 k11.size
  have hxx : ∀ k, (k = xb ∨ v.ownBlock = some k) → k < w11.heap.size := fun k hk => by
    rcases hk with rfl | hk
    · exact hx11
    · exact (hv11 k hk).2
  clear h10 gx10 hx10 k11
  obtain ⟨A2', c2', rfl, _⟩ := o11.good
  go_wp2_with fail
  (with_reducible refine (h11.does hxx (fun FL FD hs => HK.out.chk_yes FL FD lb2 db 4 s4 g4 (some ⟨xb, 0, none⟩) 1 1 [q5] 0 _ hs rfl (by omega) q5_ok gx11 i64_0 c5_le f5_ok)).mono ?_)
  rintro e w12 ⟨rfl, h12, t12⟩
  have h12 : LHas LI w.heap.size w (fun k => k = xb ∨ (Value.slice A2' [q5].length c2').ownBlock = some k) w12 lb2 db 4 s5 g5 := h12
  have gx12 := t12.goodR gx11 (fun b off e => by cases e; exact ⟨.inl rfl, hx11⟩)
  have o12 := t12.ownsR o11 (fun k hk => .inr hk)
  have hxx12 : ∀ k, (k = xb ∨ (Value.slice A2' [q5].length c2').ownBlock = some k) → k < w12.heap.size := fun k hk => Nat.lt_of_lt_of_le (hxx k hk) t12.1
  clear h11 gx11 hx11 t12 o11 hv11 hxx
  go_wp2_with fail
  (with_reducible refine (h12.does hxx12 (fun FL FD hs => HK.out.force FL FD lb2 db 4 s5 g5 _ hs c6_le)).mono ?_)
  rintro e w13 ⟨rfl, h13, t13⟩
  have h13 : LHas LI w.heap.size w (fun k => k = xb ∨ (Value.slice A2' [q5].length c2').ownBlock = some k) w13 lb2 db 4 s6 g6 := h13
  have gx13 := t13.goodR gx12 (fun b off e => by cases e; exact ⟨.inl rfl, hxx12 _ (.inl rfl)⟩)
  have o13 := t13.ownsR o12 (fun k hk => .inr hk)
  have hxx13 : ∀ k, (k = xb ∨ (Value.slice A2' [q5].length c2').ownBlock = some k) → k < w13.heap.size := fun k hk => Nat.lt_of_lt_of_le (hxx12 k hk) t13.1
  obtain ⟨A3', c3', e3, gs13⟩ := o13.good
  injection e3 with e4 e5 e6
  subst e4 e6
  clear h12 gx12 t13 o12 hxx12
  have hR := fun W h h' => sameR A2' (some ⟨xb, 0, none⟩) [q5] 1 c2' 1 rfl (by omega) W h h'
  go_wp2_with fail
  (with_reducible refine (hR _ gs13 gx13).mono ?_)
  rintro e w14 ⟨rfl, k14⟩
  have h14 := h13.keep HK.out k14
  have gx14 := gx13.below k14
  clear h13 gx13 gs13 hR
  have hxx14 : ∀ k, (k = xb ∨ (Value.slice A2' [q5].length c2').ownBlock = some k) → k < w14.heap.size := fun k hk => Nat.lt_of_lt_of_le (hxx13 k hk) k14.size
  clear hxx13 k14
  go_wp2_with fail
  (with_reducible refine (h14.next HK.out 4 next6).mono ?_)
  rintro e w15 ⟨rfl, k15⟩
  have h15 := h14.keep HK.out k15
  have gx15 := gx14.below k15
  have hxx15 : ∀ k, (k = xb ∨ (Value.slice A2' [q5].length c2').ownBlock = some k) → k < w15.heap.size := fun k hk => Nat.lt_of_lt_of_le (hxx14 k hk) k15.size
  clear h14 gx14 hxx14 k15
  go_wp2_with fail
  (with_reducible refine (h15.first HK.out 2 first6).mono ?_)
  rintro e w16 ⟨rfl, k16⟩
  have h16 := h15.keep HK.out k16
  have gx16 := gx15.below k16
  have hxx16 : ∀ k, (k = xb ∨ (Value.slice A2' [q5].length c2').ownBlock = some k) → k < w16.heap.size := fun k hk => Nat.lt_of_lt_of_le (hxx15 k hk) k16.size
  clear h15 gx15 hxx15 k16
  go_wp2_with fail
  (with_reducible refine (h16.free HK.out 2 free6).mono ?_)
  rintro e w17 ⟨rfl, k17⟩
  have h17 := h16.keep HK.out k17
  have gx17 := gx16.below k17
  have hxx17 : ∀ k, (k = xb ∨ (Value.slice A2' [q5].length c2').ownBlock = some k) → k < w17.heap.size := fun k hk => Nat.lt_of_lt_of_le (hxx16 k hk) k17.size
  clear h16 gx16 hxx16 k17
  go_wp2_with fail
  (with_reducible refine (h17.does hxx17 (fun FL FD hs => HK.out.app_no FL FD lb2 db 4 s6 g6 (some ⟨xb, 0, none⟩) 1 1 [q5] 3 15 _ hs rfl (by omega) q5_ok gx17 i64_3 f6_no (by omega))).mono ?_)
  rintro e w18 ⟨rfl, h18, t18⟩
  have gx18 := t18.goodR gx17 (fun b off e => by cases e; exact ⟨.inl rfl, hxx17 _ (.inl rfl)⟩)
  clear h17 gx17 hxx17 t18
  have F9 := HK.out.sectors (some ⟨xb, 0, none⟩) 1 1 [q5] w18 rfl (by omega) q5_ok gx18
  rw [sect5] at F9
  go_wp2_with fail
  refine F9.mono ?_
  rintro e w19 ⟨rfl, k19⟩
  have hb := Lib.hid (h18.below.trans (k19.mono h18.size))
  clear h18 gx18 F9 k19
  go_wp2
  go_ret
  exact ⟨rfl, hb.out⟩
end Go.Proofs.YtdmkkfpbgpijjaaGreat
namespace Go.Proofs.YtdmkkfpbgpijjaaGreat
open Go.RowKit Go.Deep
set_option linter.unusedVariables false

end Go.Proofs.YtdmkkfpbgpijjaaGreat
namespace Go.Proofs.YtdmkkfpbgpijjaaGreat
open Go.RowKit Go.Deep
set_option linter.unusedVariables false

/-- Behind k rounds: nothing was written, or the ring stands. -/
def RInv (N : Nat) (rs : List RecD) (k : Nat) (lg : LogD) (st : St) : Prop :=
  st.cache = [] ∧ ((st = newS N ∧ lg = g0 ∧ (k = 0 ∨ N < nOf rs + 1)) ∨ (Ring N rs lg st.safe ∧ lg.next ≤ 1 + k * (nOf rs + 1)))
end Go.Proofs.YtdmkkfpbgpijjaaGreat
namespace Go.Proofs.YtdmkkfpbgpijjaaGreat
open Go.RowKit Go.Deep
set_option linter.unusedVariables false

theorem goodR_cells {b off c : Nat} {ls : List RecD} {w : World} (g : GoodR (some ⟨b, off, none⟩) c ls w) : ∀ j u, (ls.flatMap recC)[j]? = some u → w.cell? ((⟨b, off, none⟩ : Addr).add j) = some u := by
  intro j u hu
  have hj : j < ls.length * 11 := by
    have := (List.getElem?_eq_some_iff.1 hu).1
    rwa [flat_length recC 11 ls (fun r _ => recC_len r)] at this
  obtain ⟨b', o', e, hlt, hc⟩ := g.1 (by omega)
  cases e
  have hi : j / 11 < ls.length := by omega
  have h1 := flatD_at recC 11 ls (fun r _ => recC_len r) (j / 11) ls[j / 11] (List.getElem?_eq_getElem hi) (j % 11) (by omega)
  rw [show j / 11 * 11 + j % 11 = j by omega, hu] at h1
  have h2 := hc (j / 11) ls[j / 11] (List.getElem?_eq_getElem hi) (j % 11) u h1.symm
  rw [Go.WideShapes.add_plain]
  rw [show off + j / 11 * 11 + j % 11 = off + j by omega] at h2
  exact h2
theorem recs_one (ls : List RecD) : ∀ u ∈ ls.flatMap recC, u.oneCell' = true := by
  intro u hu
  obtain ⟨r, _, h⟩ := List.mem_flatMap.1 hu
  exact recC_one r u h
set_option maxRecDepth 100000 in
theorem wpList_appendL {ops : Array Oper} {rest : List Oper} {o : Oper} {a : Act} {Q : Exit → Act → World → Prop} {W : World} (hgd : o.guard = none) (s x : Operand) (ho : o.op = .call { callee := .builtin .append, args := #[s, x], argTypes := #[33, 33] })
    (base : Nat) (v : Value) (rs : List RecD) (hs : a.eval s = v) (hown : OwnsR base W v rs) (A' : Option Addr) (ls : List RecD) (l' c' : Nat) (hx : a.eval x = .slice A' l' c') (hll : ls.length = l') (g : GoodR A' c' ls W) (hl : rs.length + ls.length ≤ 5000) (hbase : base ≤ W.heap.size)
    (h : ∀ v' w', OwnsR base w' v' (rs ++ ls) → W.grownBy w' v.ownBlock → (v ≠ .slice none 0 0 → v' ≠ .slice none 0 0) → (∀ k, v'.ownBlock = some k → v.ownBlock = some k ∨ W.heap.size ≤ k) → wpList Tryz.prog ops Q rest (a.put o.dst v') w') : wpList Tryz.prog ops Q (o :: rest) a W := by
  obtain ⟨i0, hi, hz0, hz1, hz2⟩ := info_parts info_rec
  cases A' with
  | none =>
    have hc0 := g.2.2 rfl
    subst hc0
    have hl0 : ls = [] := List.eq_nil_of_length_eq_zero (by have := g.2.1; omega)
    subst hl0
    have : l' = 0 := by simpa using hll.symm
    subst this
    refine wpList_append_own_none hgd s x 33 ho base 63 i0 11 Tryz.underlying33 hi v _ _ hs hown hx (h v W ?_ ⟨rfl, rfl, rfl, Nat.le_refl _, fun _ _ _ => rfl⟩ (fun h => h) (fun k hk => .inl hk))
    rw [List.append_nil]; exact hown
  | some ad =>
    have hcell : ∀ j u, (ls.flatMap recC)[j]? = some u → W.cell? (ad.add j) = some u := by
      by_cases h0 : 0 < ls.length
      · obtain ⟨b, off, e, _⟩ := g.1 h0
        injection e with e
        subst e
        exact goodR_cells g
      · have : ls = [] := List.eq_nil_of_length_eq_zero (by omega)
        subst this
        intro j u hu
        simp at hu
    refine wpList_append_own_at W hgd s x 33 ho base 63 i0 _ 11 56 Tryz.underlying33 hi hz0 hz1 hz2 rfl (by decide) v rs.length _ hs hown ad l' c' (ls.flatMap recC) hx (by rw [flat_length recC 11 ls (fun r _ => recC_len r), hll]) hcell (recs_one ls) (by simp only [maxLen]; omega) (by omega) hbase (fun v' w' hown' hgrow hiff hat => h v' w' ?_ hgrow (fun hn e => hn (hiff.1 e).1) (fun k hk => ?_))
    · unfold OwnsR
      rw [List.length_append, List.flatMap_append, hll]
      exact hown'
    · rcases hat with hat | hat
      · exact .inl (by rw [← hat]; exact hk)
      · right
        rw [hat] at hk
        injection hk with hk
        omega
/-- The row grows: the log and its disk stay. -/
theorem LHas.grow {LI : World → (Nat → Prop) → Nat → Nat → LogD → Prop} (S : WalOK LI) {B : Nat} {w0 : World} {X X' : Nat → Prop} {w w' : World} {lb db N : Nat} {st : St} {lg : LogD} {row : Option Nat} (h : LHas LI B w0 X w lb db N st lg) (hg : w.grownBy w' row) (hr : ∀ k, row = some k → X k ∧ B ≤ k) (hX : ∀ k, X' k → X k ∨ w.heap.size ≤ k) : LHas LI B w0 X' w' lb db N st lg := by
  obtain ⟨FL, FD, hs, h1, h2⟩ := h.ex
  have hm : Moves X w w' := moves_of_grown hg (fun k hk => (hr k hk).1)
  have hm2 : Moves (fun k => row = some k) w w' := moves_of_grown hg (fun k hk => hk)
  have hs' := hs.kept S hm (fun k hk x => (h1 k hk).2 x) (fun k hk x => (h2 k hk).2 x)
  refine ⟨⟨FL, FD, hs', fun k hk => ⟨(h1 k hk).1, fun x => ?_⟩, fun k hk => ⟨(h2 k hk).1, fun x => ?_⟩⟩, h.below.trans (hm2.below h.size (fun k hk => (hr k hk).2)), Nat.le_trans h.size hm.size⟩
  · rcases hX k x with a | a
    · exact (h1 k hk).2 a
    · have := S.lt hs.log k hk; omega
  · rcases hX k x with a | a
    · exact (h2 k hk).2 a
    · have := hs.disk.lt k hk; omega
/-- A list of lists of records in memory. -/
def GoodL (A : Option Addr) (Ls : List (List RecD)) (w : World) : Prop := 0 < Ls.length → ∃ b off, A = some ⟨b, off, none⟩ ∧ b < w.heap.size ∧ ∀ j l, Ls[j]? = some l → ∃ A' c', w.cell? ⟨b, off + j, none⟩ = some (.slice A' l.length c') ∧ GoodR A' c' l w
theorem GoodL.below {A : Option Addr} {Ls : List (List RecD)} {w w' : World} (h : GoodL A Ls w) (hb : Below w.heap.size w w') : GoodL A Ls w' := fun h0 => by
  obtain ⟨b, off, e, hlt, hc⟩ := h h0
  refine ⟨b, off, e, Nat.lt_of_lt_of_le hlt hb.size, fun j l hl => ?_⟩
  obtain ⟨A', c', h1, h2⟩ := hc j l hl
  exact ⟨A', c', (hb.cell (p := ⟨b, off + j, none⟩) hlt).trans h1, h2.below hb⟩
theorem GoodL.at_ {A : Option Addr} {Ls : List (List RecD)} {w : World} (h : GoodL A Ls w) (j : Nat) (hj : j < Ls.length) : ∃ b off A' c', A = some ⟨b, off, none⟩ ∧ b < w.heap.size ∧ w.cell? ⟨b, off + j, none⟩ = some (.slice A' Ls[j].length c') ∧ GoodR A' c' Ls[j] w := by
  obtain ⟨b, off, e, hlt, hc⟩ := h (by omega)
  obtain ⟨A', c', h1, h2⟩ := hc j Ls[j] (List.getElem?_eq_getElem hj)
  exact ⟨b, off, A', c', e, hlt, h1, h2⟩
end Go.Proofs.YtdmkkfpbgpijjaaGreat
namespace Go.Proofs.YtdmkkfpbgpijjaaGreat
open Go.ChangeShapes Go.WideShapes Go.ChangeAt Go.RowKit Go.Deep
set_option linter.unusedVariables false

set_option maxRecDepth 100000 in
/-- A list of records that stands in cells. -/
theorem recs_cells {H : Type} {enc : TypeId × Value → H} {W : World} {cs : List Value} {fuel : Nat} {y : DataW H × List MemPlace} (hf : DataW.trod enc Tryz.prog W 0 (fun _ => true) true fuel 33 cs = some y) :
    ∃ a len cap, ∃ rs : List RecD, cs = [.slice a len cap] ∧ rs.length = len ∧ GoodR a cap rs W ∧ (∀ r ∈ rs, okR r) ∧ len ≤ maxLen := by
  rcases open_slice Tryz.underlying33 hf with ⟨hcs, _⟩ | ⟨x, l, c, m, n, D, Pl, hcs, _, hl, hm, hmm, _, hi⟩
  · exact ⟨none, 0, 0, [], hcs, rfl, ⟨fun h0 => absurd h0 (by simp), by simp, fun _ => rfl⟩, (fun _ hx => by cases hx), by simp⟩
  · refine ⟨some x, l, c, ?_⟩
    rw [show Tryz.prog.cellsOf 63 = 11 by kernel_rfl] at hi
    have hmc : l ≤ m := by rw [hmm]; simpa using hl
    rcases Nat.eq_zero_or_pos l with h0 | h0
    · subst h0
      exact ⟨[], hcs, rfl, ⟨fun h0 => absurd h0 (by simp), by simp, fun e => by cases e⟩, (fun _ hx => by cases hx), by simp⟩
    · obtain ⟨b, off, spot⟩ := x
      obtain ⟨cs0, hc0, _⟩ := hi 0 (by omega)
      have hspot : spot = none := by
        obtain ⟨_, hl0, hat0⟩ := World.cells?_some hc0
        have := hat0 0 (by omega)
        rw [List.getElem?_eq_getElem (by omega)] at this
        simpa [Addr.add] using World.cell?_spot this
      subst hspot
      have hall : ∀ i, i < l → ∃ r : RecD, RecO W b (off + i * 11) r ∧ okR r := fun i hil => by
        obtain ⟨cs', hc', ht'⟩ := hi i (by omega)
        rw [Go.WideShapes.add_plain] at hc'
        obtain ⟨_, hl', hat'⟩ := World.cells?_some hc'
        obtain ⟨r, e, ok⟩ := one_rec hl' ht'
        refine ⟨r, fun j v hv => ?_, ok⟩
        have hj : j < 11 := by
          rcases Nat.lt_or_ge j 11 with hlt | hge
          · exact hlt
          · rw [List.getElem?_eq_none (by rw [recC_len]; exact hge)] at hv; cases hv
        have := hat' j hj
        rw [Go.WideShapes.add_plain, e, hv] at this
        exact this
      have hcho : ∀ i, ∃ r : RecD, i < l → RecO W b (off + i * 11) r ∧ okR r := fun i => by
        by_cases hil : i < l
        · obtain ⟨y, hy⟩ := hall i hil; exact ⟨y, fun _ => hy⟩
        · exact ⟨zeroR, fun h => absurd h hil⟩
      let Y : Nat → RecD := fun i => (hcho i).choose
      have hY : ∀ i, i < l → RecO W b (off + i * 11) (Y i) ∧ okR (Y i) := fun i => (hcho i).choose_spec
      have hblt : b < W.heap.size := World.block_lt_of_cell? W _ ((hY 0 h0).1 0 _ rfl)
      refine ⟨(List.range l).map Y, hcs, by simp, ⟨fun _ => ⟨b, off, rfl, hblt, fun j r hj => ?_⟩, by simp; omega, fun e => by cases e⟩, fun x hx => ?_, by omega⟩
      · have hjl : j < l := by
          rcases Nat.lt_or_ge j l with h | h
          · exact h
          · rw [List.getElem?_eq_none (by simpa using h)] at hj; cases hj
        simp [hjl] at hj
        subst hj
        exact (hY j hjl).1
      · simp only [List.mem_map, List.mem_range] at hx
        obtain ⟨i, hil, rfl⟩ := hx
        exact (hY i hil).2
end Go.Proofs.YtdmkkfpbgpijjaaGreat
namespace Go.Proofs.YtdmkkfpbgpijjaaGreat
open Go.ChangeShapes Go.WideShapes Go.ChangeAt Go.RowKit Go.Deep

set_option maxRecDepth 100000 in
/-- Bytes that come in. -/
theorem cells_good {H : Type} {enc : TypeId × Value → H} {W : World} {v : Value} {n : Nat} {x : DataW H × List MemPlace} (h : DataW.trod enc Tryz.prog W 0 (fun _ => true) true n 39 [v] = some x) :
    ∃ a cap, ∃ zs : List Int, v = .slice a zs.length cap ∧ Good0 W.heap.size W a cap zs ∧ isBytes zs ∧ zs.length ≤ maxLen := by
  rcases open_ints Tryz.underlying39 Tryz.underlying5 (by kernel_rfl) h with ⟨hcs, _⟩ | ⟨x, l, c, zs, hcs, _, hl, hm, hz, _, hcell, hwz⟩
  · simp at hcs
    subst hcs
    exact ⟨none, 0, [], rfl, ⟨Ints.nil, by simp, fun _ => rfl⟩, (fun z hz => by cases hz), by simp⟩
  · simp at hcs
    subst hcs
    have hz' : zs.length = c := by simpa using hz
    have hlen : (zs.take l).length = l := by rw [List.length_take]; omega
    refine ⟨some x, c, zs.take l, by rw [hlen], ⟨fun h0 => ?_, by omega, fun e => by cases e⟩, fun n hn => by have := bounds_u8 (hwz n (List.mem_of_mem_take hn)); omega, by omega⟩
    obtain ⟨b, off, rfl, hcc⟩ := ints_at hcell (by omega)
    have hb : b < W.heap.size := by
      have h1 := hcc 0 (by omega)
      exact World.block_lt_of_cell? W _ h1
    refine ⟨b, off, rfl, hb, fun j hj => ?_⟩
    rw [hlen] at hj
    rw [hcc j (by omega)]
    simp [List.getElem?_take_of_lt hj, List.getD]
def okCall (x : CallD) : Prop := isBytes x.zs ∧ x.zs.length ≤ maxLen
end Go.Proofs.YtdmkkfpbgpijjaaGreat
namespace Go.Proofs.YtdmkkfpbgpijjaaGreat
open Go
set_option linter.unusedVariables false

def Reach {H : Type} (P : Program) (t : TypeId) (d : DataW H) : Prop := ∀ n ∈ d.weights P t, n ≤ reachBytes
theorem weightsAll_in {H : Type} {P : Program} {e : TypeId} : ∀ {l : List (DataW H)} {d : DataW H}, d ∈ l → ∀ n ∈ d.weights P e, n ∈ DataW.weightsAll P e l
  | x :: l, d, h, n, hn => by
    simp only [DataW.weightsAll, List.mem_append]
    rcases List.mem_cons.1 h with rfl | h
    · exact Or.inl hn
    · exact Or.inr (weightsAll_in h n hn)
theorem Reach.part {H : Type} {P : Program} {t : TypeId} {fs : Array Field} (hu : P.underlying t = some (.struct fs)) {parts : List (DataW H)} (h : Reach P t (.agg parts)) {j : Nat} {tj : TypeId} {dj : DataW H} (h1 : (fs.toList.map (·.type))[j]? = some tj) (h2 : parts[j]? = some dj) : Reach P tj dj := fun n hn => h n (by
  simp only [DataW.weights, hu]
  exact DataW.weights_mem_each h1 h2 n hn)
theorem Reach.elem {H : Type} {P : Program} {t e : TypeId} (hu : P.underlying t = some (.slice e)) {elems spare : List (DataW H)} (h : Reach P t (.slice elems spare)) {d : DataW H} (hd : d ∈ elems) : Reach P e d := fun n hn => h n (by
  simp only [DataW.weights, hu]
  exact List.mem_cons_of_mem _ (List.mem_append_left _ (weightsAll_in hd n hn)))
theorem Reach.len {H : Type} {P : Program} {t e : TypeId} (hu : P.underlying t = some (.slice e)) {elems spare : List (DataW H)} (h : Reach P t (.slice elems spare)) : (elems.length + spare.length) * P.bytesOf e ≤ reachBytes := h _ (by
  simp only [DataW.weights, hu]
  exact List.mem_cons_self)
theorem reach_at {H : Type} {P : Program} {ts : List TypeId} {ds : List (DataW H)} (h : (DataW.weightsEach P ts ds).all (· ≤ reachBytes) = true) {j : Nat} {t : TypeId} {d : DataW H} (ht : ts[j]? = some t) (hd : ds[j]? = some d) : Reach P t d := fun n hn => by
  have := List.all_eq_true.1 h _ (DataW.weights_mem_each ht hd n hn)
  simpa using this
end Go.Proofs.YtdmkkfpbgpijjaaGreat
namespace Go.Proofs.YtdmkkfpbgpijjaaGreat
open Go.ChangeShapes Go.WideShapes Go.ChangeAt Go.RowKit Go.Deep
set_option linter.unusedVariables false

structure Call5 where
  what : Int
  spare : Int
  keep : Int
  tear : Int
  A : Option Addr
  c : Nat
  rs : List RecD
  D : Option Addr
  d : Nat
  zs : List Int
def call5V (x : Call5) : List Value := [.int .i64 x.what, .int .i64 x.spare, .int .i64 x.keep, .int .i64 x.tear, .slice x.A x.rs.length x.c, .slice x.D x.zs.length x.d]
structure Call5At (w : World) (b f : Nat) (x : Call5) : Prop where
  row : w.rangeAt b f (call5V x)
  recs : GoodR x.A x.c x.rs w
  data : Good x.D x.d x.zs w
structure okCall5 (x : Call5) : Prop where
  rs : ∀ r ∈ x.rs, okR r
  zs : isBytes x.zs
  spare : isI64 x.spare
  keep : isI64 x.keep
  tear : isI64 x.tear
  what : isI64 x.what
  lr : x.rs.length ≤ 140737488355328
  lz : x.zs.length ≤ maxLen
def Calls5 (w : World) (A : Option Addr) (cs : List Call5) : Prop := 0 < cs.length → ∃ b off, A = some ⟨b, off, none⟩ ∧ b < w.heap.size ∧ ∀ j x, cs[j]? = some x → Call5At w b (off + j * 6) x
theorem Call5At.below {w w' : World} {b f : Nat} {x : Call5} (h : Call5At w b f x) (hb : Below w.heap.size w w') (hlt : b < w.heap.size) : Call5At w' b f x := ⟨rangeAt_of_block' (hb.block b hlt) h.row, h.recs.below hb, h.data.below hb⟩
theorem Calls5.below {w w' : World} {A : Option Addr} {cs : List Call5} (h : Calls5 w A cs) (hb : Below w.heap.size w w') : Calls5 w' A cs := fun h0 => by
  obtain ⟨b, off, e, hlt, hc⟩ := h h0
  exact ⟨b, off, e, Nat.lt_of_lt_of_le hlt hb.size, fun j x hx => (hc j x hx).below hb hlt⟩
set_option maxRecDepth 100000 in
theorem one_call5 {H : Type} {enc : TypeId × Value → H} {W : World} {b o n : Nat} {cs : List Value} {x : DataW H × List MemPlace} (hz : Reach Tryz.prog 41 x.1) (hc : W.cells? 0 ⟨b, o, none⟩ 6 = some cs) (h : DataW.trod enc Tryz.prog W 0 (fun _ => true) true n 41 cs = some x) :
    ∃ y : Call5, Call5At W b o y ∧ okCall5 y := by
  obtain ⟨_, hl, hat⟩ := World.cells?_some hc
  obtain ⟨ys, n', _, hx, _, hyl, hf⟩ := DataW.trod_struct Tryz.underlying41 h
  rw [hx] at hz
  match cs, hl with
  | [v0, v1, v2, v3, v4, v5], _ =>
    match ys, hyl with
    | [y0, y1, y2, y3, y4, y5], _ =>
      have f0 : DataW.trod enc Tryz.prog W 0 (fun _ => true) true n' 3 (([v0, v1, v2, v3, v4, v5].drop 0).take (Tryz.prog.cellsOf 3)) = some y0 := hf 0 _ rfl
      have f1 : DataW.trod enc Tryz.prog W 0 (fun _ => true) true n' 3 (([v0, v1, v2, v3, v4, v5].drop 1).take (Tryz.prog.cellsOf 3)) = some y1 := hf 1 _ rfl
      have f2 : DataW.trod enc Tryz.prog W 0 (fun _ => true) true n' 3 (([v0, v1, v2, v3, v4, v5].drop 2).take (Tryz.prog.cellsOf 3)) = some y2 := hf 2 _ rfl
      have f3 : DataW.trod enc Tryz.prog W 0 (fun _ => true) true n' 3 (([v0, v1, v2, v3, v4, v5].drop 3).take (Tryz.prog.cellsOf 3)) = some y3 := hf 3 _ rfl
      have f4 : DataW.trod enc Tryz.prog W 0 (fun _ => true) true n' 33 (([v0, v1, v2, v3, v4, v5].drop 4).take (Tryz.prog.cellsOf 33)) = some y4 := hf 4 _ rfl
      have f5 : DataW.trod enc Tryz.prog W 0 (fun _ => true) true n' 39 (([v0, v1, v2, v3, v4, v5].drop 5).take (Tryz.prog.cellsOf 39)) = some y5 := hf 5 _ rfl
      rw [show Tryz.prog.cellsOf 3 = 1 by kernel_rfl] at f0 f1 f2 f3
      rw [show Tryz.prog.cellsOf 33 = 1 by kernel_rfl] at f4
      rw [show Tryz.prog.cellsOf 39 = 1 by kernel_rfl] at f5
      have hz4 : Reach Tryz.prog 33 y4.1 := hz.part Tryz.underlying41 (j := 4) rfl rfl
      have hlen : ∀ a ll c, v4 = .slice a ll c → ll ≤ 140737488355328 := fun a ll c e => by
        have g4 := f4
        rw [e] at g4
        rcases open_slice Tryz.underlying33 (show DataW.trod enc Tryz.prog W 0 (fun _ => true) true n' 33 [.slice a ll c] = some y4 from g4) with ⟨hcs, _⟩ | ⟨xx, l, c', m, nn, D, Pl, hcs, _, hl, hm, hmm, hy, _⟩
        · simp only [List.cons.injEq, Value.slice.injEq, and_true] at hcs
          omega
        · simp only [List.cons.injEq, Value.slice.injEq, and_true] at hcs
          obtain ⟨_, rfl, _⟩ := hcs
          rw [hy] at hz4
          have h5 := hz4.len Tryz.underlying33
          have h6 := reachBytes_lt
          have h7 : 1 ≤ Tryz.prog.bytesOf 63 := of_decide_eq_true (by kernel_rfl)
          rw [List.length_map, List.length_range] at h5
          have h8 : ll * 1 ≤ (ll + (List.map (fun j => D (ll + j)) (List.range (m - ll))).length) * Tryz.prog.bytesOf 63 := Nat.mul_le_mul (by omega) h7
          simp only [show (2 : Nat) ^ 47 = 140737488355328 by decide] at h6
          omega
      obtain ⟨a0, e0, _, w0⟩ := DataW.trod_int Tryz.underlying3 (show DataW.trod enc Tryz.prog W 0 (fun _ => true) true n' 3 [v0] = some y0 from f0)
      obtain ⟨a1, e1, _, w1⟩ := DataW.trod_int Tryz.underlying3 (show DataW.trod enc Tryz.prog W 0 (fun _ => true) true n' 3 [v1] = some y1 from f1)
      obtain ⟨a2, e2, _, w2⟩ := DataW.trod_int Tryz.underlying3 (show DataW.trod enc Tryz.prog W 0 (fun _ => true) true n' 3 [v2] = some y2 from f2)
      obtain ⟨a3, e3, _, w3⟩ := DataW.trod_int Tryz.underlying3 (show DataW.trod enc Tryz.prog W 0 (fun _ => true) true n' 3 [v3] = some y3 from f3)
      obtain ⟨a4, l4, c4, rs, e4, hl4, g4, ok4, m4⟩ := recs_cells (show DataW.trod enc Tryz.prog W 0 (fun _ => true) true n' 33 [v4] = some y4 from f4)
      obtain ⟨a5, c5, zs, e5, g5, h5, m5⟩ := cells_good (show DataW.trod enc Tryz.prog W 0 (fun _ => true) true n' 39 [v5] = some y5 from f5)
      simp only [List.cons.injEq, and_true] at e0 e1 e2 e3 e4
      subst e0 e1 e2 e3 e4 e5 hl4
      have m4' := hlen _ _ _ rfl
      have q : ∀ i, i < 6 → W.cell? ⟨b, o + i, none⟩ = [Value.int .i64 a0, .int .i64 a1, .int .i64 a2, .int .i64 a3, .slice a4 rs.length c4, .slice a5 zs.length c5][i]? := fun i hi => by have := hat i hi; rw [Go.WideShapes.add_plain] at this; exact this
      refine ⟨⟨a0, a1, a2, a3, a4, c4, rs, a5, c5, zs⟩, ⟨fun i v hv => ?_, g4, g5.good (Nat.le_refl _)⟩, ⟨ok4, h5, ?_, ?_, ?_, ?_, m4', m5⟩⟩
      · have hi : i < 6 := by
          rcases Nat.lt_or_ge i 6 with y | y
          · exact y
          · rw [List.getElem?_eq_none (by simp [call5V]; omega)] at hv; cases hv
        rw [q i hi]; exact hv
      · have := bounds_i64 w1; exact (⟨by omega, by omega⟩ : isI64 a1)
      · have := bounds_i64 w2; exact (⟨by omega, by omega⟩ : isI64 a2)
      · have := bounds_i64 w3; exact (⟨by omega, by omega⟩ : isI64 a3)
      · have := bounds_i64 w0; exact (⟨by omega, by omega⟩ : isI64 a0)
set_option maxRecDepth 100000 in
/-- Calls that come in. -/
theorem slice_calls5 {H : Type} {enc : TypeId × Value → H} {W : World} {a : Option Addr} {len cap : Nat} {d : DataW H} {p : List MemPlace} (h : DataW.Trod enc Tryz.prog W 0 (fun _ => true) true 22 (.slice a len cap) d p) (hz : Reach Tryz.prog 22 d) :
    ∃ cs : List Call5, cs.length = len ∧ Calls5 W a cs ∧ (∀ x ∈ cs, okCall5 x) ∧ len ≤ maxLen := by
  obtain ⟨fuel, hf⟩ := h
  rcases open_slice Tryz.underlying22 hf with ⟨hcs, _⟩ | ⟨x, l, c, m, n, D, Pl, hcs, _, hl, hm, hmm, hdd, hi⟩
  · simp [Value.cells] at hcs
    obtain ⟨rfl, rfl, rfl⟩ := hcs
    exact ⟨[], rfl, fun h0 => absurd h0 (by simp), (fun _ hx => by cases hx), by simp⟩
  · simp [Value.cells] at hcs
    obtain ⟨rfl, rfl, rfl⟩ := hcs
    have hd1 : d = .slice ((List.range len).map D) ((List.range (m - len)).map fun j => D (len + j)) := congrArg Prod.fst hdd
    rw [hd1] at hz
    rw [show Tryz.prog.cellsOf 41 = 6 by kernel_rfl] at hi
    have hmc : len ≤ m := by rw [hmm]; simpa using hl
    rcases Nat.eq_zero_or_pos len with h0 | h0
    · subst h0
      exact ⟨[], rfl, fun h0 => absurd h0 (by simp), (fun _ hx => by cases hx), by simp⟩
    · obtain ⟨b, off, spot⟩ := x
      obtain ⟨cs0, hc0, _⟩ := hi 0 (by omega)
      have hspot : spot = none := by
        obtain ⟨_, hl0, hat0⟩ := World.cells?_some hc0
        have := hat0 0 (by omega)
        rw [List.getElem?_eq_getElem (by omega)] at this
        simpa [Addr.add] using World.cell?_spot this
      subst hspot
      have hall : ∀ i, i < len → ∃ y : Call5, Call5At W b (off + i * 6) y ∧ okCall5 y := fun i hil => by
        obtain ⟨cs', hc', ht'⟩ := hi i (by omega)
        rw [Go.WideShapes.add_plain] at hc'
        exact one_call5 (hz.elem Tryz.underlying22 (List.mem_map.2 ⟨i, List.mem_range.2 hil, rfl⟩)) hc' ht'
      have hcho : ∀ i, ∃ y : Call5, i < len → Call5At W b (off + i * 6) y ∧ okCall5 y := fun i => by
        by_cases hil : i < len
        · obtain ⟨y, hy⟩ := hall i hil; exact ⟨y, fun _ => hy⟩
        · exact ⟨⟨0, 0, 0, 0, none, 0, [], none, 0, []⟩, fun h => absurd h hil⟩
      let Y : Nat → Call5 := fun i => (hcho i).choose
      have hY : ∀ i, i < len → Call5At W b (off + i * 6) (Y i) ∧ okCall5 (Y i) := fun i => (hcho i).choose_spec
      refine ⟨(List.range len).map Y, by simp, fun _ => ⟨b, off, rfl, ?_, fun j x hj => ?_⟩, fun x hx => ?_, by omega⟩
      · exact World.block_lt_of_cell? W _ ((hY 0 h0).1.row 0 _ rfl)
      · have hjl : j < len := by
          rcases Nat.lt_or_ge j len with h | h
          · exact h
          · rw [List.getElem?_eq_none (by simpa using h)] at hj; cases hj
        simp [hjl] at hj
        subst hj
        exact (hY j hjl).1
      · simp only [List.mem_map, List.mem_range] at hx
        obtain ⟨i, hil, rfl⟩ := hx
        exact (hY i hil).2
end Go.Proofs.YtdmkkfpbgpijjaaGreat

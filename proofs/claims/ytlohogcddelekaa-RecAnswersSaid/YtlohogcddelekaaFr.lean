/- The walk of the statement RecAnswers: it returns true, for every input; on what the document's own Decode and All answer (HD, HA). -/
import Derived.Test.YtlohogcddelekaaEq
import Derived.Test.YtlohogcddelekaaEu
import Derived.Test.YtlohogcddelekaaFe
import Derived.Test.YtlohogcddelekaaFj
namespace Go.Proofs.Ytlohogcddelekaa
open Go.RowKit Go.Deep
set_option linter.unusedVariables false

def encB (r : RecD) : List Int := if rightB r then encL r else []
theorem encB_le (r : RecD) : (encB r).length ≤ 24 := by
  unfold encB
  have := encL_bd r
  split
  · omega
  · simp
def EncB (r : RecD) (n : Nat) (w : World) (e : Ending) (w' : World) : Prop := ∃ A2 c2, e = .returned (.tuple #[.slice A2 n c2, .bool (rightB r)]) ∧ Good A2 c2 (encB r) w' ∧ Below w.heap.size w w'
theorem encB_any (r : RecD) (ok : okR r) (n : Nat) (hn : (encB r).length = n) (W : World) : Calls Try.prog 16 #[recV r] W (EncB r n W) := by
  unfold EncB
  cases hr : rightB r with
  | false =>
    have e0 : encB r = [] := by simp [encB, hr]
    rw [e0] at hn ⊢
    subst hn
    refine (enc_no r hr W).mono ?_
    rintro e w' ⟨rfl, k⟩
    exact ⟨none, 0, rfl, Good.nil _, k⟩
  | true =>
    have e0 : encB r = encL r := by simp [encB, hr]
    rw [e0] at hn ⊢
    subst hn
    refine (enc_yes r hr ok W).mono ?_
    rintro e w' ⟨v, rfl, o, k⟩
    obtain ⟨A2, c2, rfl, g2⟩ := o.good
    exact ⟨A2, c2, rfl, g2, k⟩
theorem refEncB_any (r : RecD) (ok : okR r) (n : Nat) (hn : (encB r).length = n) (W : World) : Calls Try.prog 17 #[recV r] W (EncB r n W) := by
  unfold EncB
  cases hr : rightB r with
  | false =>
    have e0 : encB r = [] := by simp [encB, hr]
    rw [e0] at hn ⊢
    subst hn
    refine (refEnc_no r hr W).mono ?_
    rintro e w' ⟨rfl, k⟩
    exact ⟨none, 0, rfl, Good.nil _, k⟩
  | true =>
    have e0 : encB r = encL r := by simp [encB, hr]
    rw [e0] at hn ⊢
    subst hn
    refine (refEnc_yes r hr ok W).mono ?_
    rintro e w' ⟨v, rfl, o, k⟩
    obtain ⟨A2, c2, rfl, g2⟩ := o.good
    exact ⟨A2, c2, rfl, g2, k⟩
def joinB (rs : List RecD) : List Int := if rs.all rightB then joinL rs else []
theorem joinB_le (rs : List RecD) : (joinB rs).length ≤ 24 * rs.length := by
  unfold joinB
  have := joinL_le rs
  split
  · omega
  · simp
theorem joinSays_b {rs : List RecD} {w w' : World} {e : Ending} (h : JoinSays rs w e w') : ∃ A2 c2, e = .returned (.tuple #[.slice A2 (joinB rs).length c2, .bool (rs.all rightB)]) ∧ Good A2 c2 (joinB rs) w' ∧ Below w.heap.size w w' := by
  unfold joinB
  rcases h with ⟨ha, v, rfl, o, k⟩ | ⟨ha, rfl, k⟩
  · rw [ha]
    obtain ⟨A2, c2, rfl, g2⟩ := o.good
    exact ⟨A2, c2, rfl, g2, k⟩
  · rw [ha]
    exact ⟨none, 0, rfl, Good.nil _, k⟩
theorem allSays_b {zs : List Int} {w w' : World} {e : Ending} (h : AllSays zs w e w') : ∃ k A2 c2, Stops zs k ∧ e = .returned (.tuple #[.slice A2 k c2, .int .i64 ((posN zs k : Nat) : Int)]) ∧ GoodR A2 c2 (recsN zs k) w' ∧ Below w.heap.size w w' := by
  obtain ⟨k, v, hs, rfl, o, hb⟩ := h
  obtain ⟨A2, c2, rfl, g2⟩ := o.good
  rw [recsN_length]
  exact ⟨k, A2, c2, hs, rfl, g2, hb⟩
theorem eqR_self (r : RecD) : eqR r r = true := (eqR_iff r r).2 rfl
set_option maxRecDepth 100000 in
set_option maxHeartbeats 1000000 in
theorem recAnswers_long (A B : Option Addr) (l c lb cb : Nat) (h : 60 < l ∨ 1000 < lb) (m : l ≤ 9223372036854775807) (mb : lb ≤ 9223372036854775807) (w : World) :
    Calls Try.prog 3 #[.slice A l c, .slice B lb cb] w fun e w' => e = .returned (.bool true) ∧ Below w.heap.size w w' := by
  have c0 : ∀ W, Calls Try.prog 8 #[] W fun e w' => e = .returned (.bool true) ∧ Below W.heap.size W w' := fun W => alive_any W
  by_cases h60 : 60 < l
  · have hd : decide ((60 : Int) < (l : Int)) = true := by simp; omega
    go_enter Try.func3, Try.ntmps3
    go_wp2_with fail
    (with_reducible refine (c0 _).mono ?_)
    rintro e w1 ⟨rfl, k1⟩
    go_wp2
    go_ret
    exact ⟨rfl, k1⟩
  · have hd : decide ((60 : Int) < (l : Int)) = false := by simp; omega
    have hd2 : decide ((1000 : Int) < (lb : Int)) = true := by simp; omega
    go_enter Try.func3, Try.ntmps3
    go_wp2_with fail
    (with_reducible refine (c0 _).mono ?_)
    rintro e w1 ⟨rfl, k1⟩
    go_wp2
    go_ret
    exact ⟨rfl, k1⟩
set_option maxRecDepth 100000 in
set_option maxHeartbeats 4000000 in
theorem recAnswers_of (HD : ∀ (A : Option Addr) (l c : Nat) (zs : List Int), zs.length = l → isBytes zs → ∀ (w : World), Good A c zs w → Calls Try.prog 11 #[.slice A l c] w (DecSays (decR zs) (decN zs) w))
    (HA : ∀ (A : Option Addr) (l c : Nat) (zs : List Int), zs.length = l → l ≤ 3000 → isBytes zs → ∀ (w : World), Good A c zs w → Calls Try.prog 13 #[.slice A l c] w (AllSays zs w))
    (A : Option Addr) (l c : Nat) (rs : List RecD) (hl : rs.length = l) (h60 : l ≤ 60) (ok : ∀ r ∈ rs, okR r) (B : Option Addr) (lb cb : Nat) (zs : List Int) (hlb : zs.length = lb) (hb1 : lb ≤ 1000) (hz : isBytes zs) (w : World) (g : GoodR A c rs w) (gb : Good B cb zs w) :
    Calls Try.prog 3 #[.slice A l c, .slice B lb cb] w fun e w' => e = .returned (.bool true) ∧ Below w.heap.size w w' := by
  have c0 : ∀ W, Calls Try.prog 8 #[] W fun e w' => e = .returned (.bool true) ∧ Below W.heap.size W w' := fun W => alive_any W
  have hd : decide ((60 : Int) < (l : Int)) = false := by simp; omega
  have hd2 : decide ((1000 : Int) < (lb : Int)) = false := by simp; omega
  have F1 : ∀ W, Good B cb zs W → Calls Try.prog 9 #[.slice B lb cb] W fun e w' => ∃ C cc, e = .returned (.slice C lb cc) ∧ Good C cc zs w' ∧ Below W.heap.size W w' := fun W h => by
    refine (copyB B zs cb lb hlb (by omega) W h).mono ?_
    rintro e w' ⟨v, rfl, o, k⟩
    obtain ⟨C, cc, rfl, g2⟩ := o.good
    exact ⟨C, cc, by rw [hlb], g2, k⟩
  obtain ⟨r, hr⟩ : ∃ r, decR zs = r := ⟨_, rfl⟩
  obtain ⟨n, hn⟩ : ∃ n, decN zs = n := ⟨_, rfl⟩
  have hn24 : n ≤ 24 := by have := decN_bd zs; omega
  have F2 : ∀ C cc W, Good C cc zs W → Calls Try.prog 10 #[.slice C lb cc] W fun e w' => e = .returned (.tuple #[.agg #[.int .i64 r.kind, .int .i64 r.tx, .int .u16 r.mask, .int .u8 r.k0, .int .u8 r.k1, .int .u8 r.k2, .int .u8 r.k3, .bool r.oT, .int .i64 r.oN, .bool r.nT, .int .i64 r.nN], .int .i64 (n : Nat)]) ∧ Below W.heap.size W w' := fun C cc W h => by rw [← hr, ← hn]; exact dec_any C lb cc zs hlb hz W h
  have F3 : ∀ W, Good B cb zs W → Calls Try.prog 11 #[.slice B lb cb] W fun e w' => e = .returned (.tuple #[.agg #[.int .i64 r.kind, .int .i64 r.tx, .int .u16 r.mask, .int .u8 r.k0, .int .u8 r.k1, .int .u8 r.k2, .int .u8 r.k3, .bool r.oT, .int .i64 r.oN, .bool r.nT, .int .i64 r.nN], .int .i64 (n : Nat)]) ∧ Below W.heap.size W w' := fun W h => by rw [← hr, ← hn]; exact HD B lb cb zs hlb hz W h
  have F4 : ∀ C cc W, Good C cc zs W → Calls Try.prog 12 #[.slice C lb cc] W fun e w' => ∃ k A2 c2, Stops zs k ∧ e = .returned (.tuple #[.slice A2 k c2, .int .i64 ((posN zs k : Nat) : Int)]) ∧ GoodR A2 c2 (recsN zs k) w' ∧ Below W.heap.size W w' := fun C cc W h => (all_any C lb cc zs hlb (by omega) hz W h).mono fun e w' q => allSays_b q
  have F5 : ∀ W, Good B cb zs W → Calls Try.prog 13 #[.slice B lb cb] W fun e w' => ∃ k A2 c2, Stops zs k ∧ e = .returned (.tuple #[.slice A2 k c2, .int .i64 ((posN zs k : Nat) : Int)]) ∧ GoodR A2 c2 (recsN zs k) w' ∧ Below W.heap.size W w' := fun W h => (HA B lb cb zs hlb (by omega) hz W h).mono fun e w' q => allSays_b q
  obtain ⟨ps, hps⟩ : ∃ ps, joinB rs = ps := ⟨_, rfl⟩
  obtain ⟨pn, hpn⟩ : ∃ pn, ps.length = pn := ⟨_, rfl⟩
  have hpn2 : pn ≤ 1440 := by have := joinB_le rs; rw [hps, hpn, hl] at this; omega
  obtain ⟨po, hpo⟩ : ∃ po, rs.all rightB = po := ⟨_, rfl⟩
  have F6 : ∀ W, GoodR A c rs W → Calls Try.prog 14 #[.slice A l c] W fun e w' => ∃ A2 c2, e = .returned (.tuple #[.slice A2 pn c2, .bool po]) ∧ Good A2 c2 ps w' ∧ Below W.heap.size W w' := fun W h => by
    refine (join_any A l c rs hl h60 ok W h).mono fun e w' q => ?_
    have := joinSays_b q
    rwa [hps, hpn, hpo] at this
  have F7 : ∀ W, GoodR A c rs W → Calls Try.prog 15 #[.slice A l c] W fun e w' => ∃ A2 c2, e = .returned (.tuple #[.slice A2 pn c2, .bool po]) ∧ Good A2 c2 ps w' ∧ Below W.heap.size W w' := fun W h => by
    refine (refJoin_any A l c rs hl h60 ok W h).mono fun e w' q => ?_
    have := joinSays_b q
    rwa [hps, hpn, hpo] at this
  have HL := Lib.hid hl
  have HLB := Lib.hid hlb
  have HPN := Lib.hid hpn
  have HZ := Lib.hid hz
  clear HD HA hr hn hps hpn hpo hlb hz
  go_enter Try.func3, Try.ntmps3
  go_wp2_with fail
  (with_reducible refine (c0 _).mono ?_)
  rintro e w0 ⟨rfl, k0⟩
  clear c0
  have g0 := g.below k0
  have gb0 := gb.below k0
  clear g gb
  go_wp2_with fail
  (with_reducible refine (F1 _ gb0).mono ?_)
  rintro e w1 ⟨C, cc, rfl, gc1, k1⟩
  have g1 := g0.below k1
  have gb1 := gb0.below k1
  have b1 := below_more k0 k1 (Nat.le_refl _)
  clear F1 g0 gb0 k0 k1
  go_wp2_with fail
  (with_reducible refine (F2 _ _ _ gc1).mono ?_)
  rintro e w2 ⟨rfl, k2⟩
  have ka2 : Below w2.heap.size w2 (w2.alloc (.cells #[.int .i64 r.kind, .int .i64 r.tx, .int .u16 r.mask, .int .u8 r.k0, .int .u8 r.k1, .int .u8 r.k2, .int .u8 r.k3, .bool r.oT, .int .i64 r.oN, .bool r.nT, .int .i64 r.nN] 32)) := (Below.refl _ _).alloc (Nat.le_refl _) _
  have rb2 : RecBox (w2.alloc (.cells #[.int .i64 r.kind, .int .i64 r.tx, .int .u16 r.mask, .int .u8 r.k0, .int .u8 r.k1, .int .u8 r.k2, .int .u8 r.k3, .bool r.oT, .int .i64 r.oN, .bool r.nT, .int .i64 r.nN] 32)) w2.heap.size r := recBox_new w2 r
  have kk2 := below_more k2 ka2 (Nat.le_refl _)
  have g2 := g1.below kk2
  have gb2 := gb1.below kk2
  have gc2 := gc1.below kk2
  have b2 := below_more b1 kk2 (Nat.le_refl _)
  clear F2 g1 gb1 gc1 b1 kk2 k2 ka2
  go_wp2_with fail
  (with_reducible refine (F3 _ gb2).mono ?_)
  rintro e w3 ⟨rfl, k3⟩
  have ka3 : Below w3.heap.size w3 (w3.alloc (.cells #[.int .i64 r.kind, .int .i64 r.tx, .int .u16 r.mask, .int .u8 r.k0, .int .u8 r.k1, .int .u8 r.k2, .int .u8 r.k3, .bool r.oT, .int .i64 r.oN, .bool r.nT, .int .i64 r.nN] 32)) := (Below.refl _ _).alloc (Nat.le_refl _) _
  have rc3 : RecBox (w3.alloc (.cells #[.int .i64 r.kind, .int .i64 r.tx, .int .u16 r.mask, .int .u8 r.k0, .int .u8 r.k1, .int .u8 r.k2, .int .u8 r.k3, .bool r.oT, .int .i64 r.oN, .bool r.nT, .int .i64 r.nN] 32)) w3.heap.size r := recBox_new w3 r
  have kk3 := below_more k3 ka3 (Nat.le_refl _)
  have rb3 := rb2.below kk3 rb2.at_.lt
  have g3 := g2.below kk3
  have gb3 := gb2.below kk3
  have gc3 := gc2.below kk3
  have b3 := below_more b2 kk3 (Nat.le_refl _)
  clear F3 g2 gb2 gc2 b2 kk3 k3 ka3 rb2
  generalize w2.heap.size = m1 at *
  go_wp2_with fail
  (with_reducible refine (F4 _ _ _ gc3).mono ?_)
  rintro e w4 ⟨k, X, xc, hst, rfl, gx4, k4⟩
  have rb4 := rb3.below k4 rb3.at_.lt
  have rc4 := rc3.below k4 rc3.at_.lt
  have g4 := g3.below k4
  have gb4 := gb3.below k4
  have gc4 := gc3.below k4
  have b4 := below_more b3 k4 (Nat.le_refl _)
  clear F4 g3 gb3 gc3 b3 k4 rb3 rc3
  generalize w3.heap.size = m2 at *
  go_wp2_with fail
  (with_reducible refine (F5 _ gb4).mono ?_)
  rintro e w5 ⟨k', Y, yc, hst', rfl, gy5, k5⟩
  obtain rfl := stops_one hst hst'
  have hk3 : k ≤ 1000 := by
    have h1 := posN_ge hst.1
    have h2 := posN_le zs k
    rw [HLB.out] at h2
    omega
  have hrl := Lib.hid (recsN_length zs k)
  generalize posN zs k = pk at *
  generalize recsN zs k = xs at *
  clear hst hst'
  have rb5 := rb4.below k5 rb4.at_.lt
  have rc5 := rc4.below k5 rc4.at_.lt
  have g5 := g4.below k5
  have gb5 := gb4.below k5
  have gc5 := gc4.below k5
  have gx5 := gx4.below k5
  have b5 := below_more b4 k5 (Nat.le_refl _)
  clear F5 g4 gb4 gc4 b4 k5 rb4 rc4 gx4
  go_wp2_with fail
  (with_reducible refine (F6 _ g5).mono ?_)
  rintro e w6 ⟨P, pc, rfl, gp6, k6⟩
  have rb6 := rb5.below k6 rb5.at_.lt
  have rc6 := rc5.below k6 rc5.at_.lt
  have g6 := g5.below k6
  have gb6 := gb5.below k6
  have gc6 := gc5.below k6
  have gx6 := gx5.below k6
  have gy6 := gy5.below k6
  have b6 := below_more b5 k6 (Nat.le_refl _)
  clear F6 g5 gb5 gc5 b5 k6 rb5 rc5 gx5 gy5
  go_wp2_with fail
  (with_reducible refine (F7 _ g6).mono ?_)
  rintro e w7 ⟨Q, qc, rfl, gq7, k7⟩
  have rb7 := rb6.below k7 rb6.at_.lt
  have rc7 := rc6.below k7 rc6.at_.lt
  have g7 := g6.below k7
  have gb7 := gb6.below k7
  have gc7 := gc6.below k7
  have gx7 := gx6.below k7
  have gy7 := gy6.below k7
  have gp7 := gp6.below k7
  have b7 := below_more b6 k7 (Nat.le_refl _)
  clear F7 g6 gb6 gc6 b6 k7 rb6 rc6 gx6 gy6 gp6
  go_wp2
  go_loopw [18] (fun i wr => ∃ j : Nat, j ≤ l ∧ i = .int .i64 j ∧ Below w7.heap.size w7 wr) (fun i _ => l - (intOf i).toNat)
  case atStart => exact ⟨0, Nat.zero_le _, rfl, Below.refl _ _⟩
  case round =>
    obtain ⟨j, hj, rfl, hbel⟩ := hrel
    by_cases hlt : j < l
    · have hjl : j < rs.length := by have := HL.out; omega
      have okr := ok _ (List.getElem_mem hjl)
      obtain ⟨b, off, rfl, hbl, hro⟩ := (g7.below hbel).cells j hjl
      generalize rs[j] = s at *
      obtain ⟨en, hen⟩ : ∃ en, (encB s).length = en := ⟨_, rfl⟩
      have hen2 : en ≤ 24 := by rw [← hen]; exact encB_le s
      have E1 : ∀ W, Calls Try.prog 16 #[.agg #[.int .i64 s.kind, .int .i64 s.tx, .int .u16 s.mask, .int .u8 s.k0, .int .u8 s.k1, .int .u8 s.k2, .int .u8 s.k3, .bool s.oT, .int .i64 s.oN, .bool s.nT, .int .i64 s.nN]] W fun e w' => ∃ A2 c2, e = .returned (.tuple #[.slice A2 en c2, .bool (rightB s)]) ∧ Good A2 c2 (encB s) w' ∧ Below W.heap.size W w' := fun W => encB_any s okr en hen W
      have E2 : ∀ W, Calls Try.prog 17 #[.agg #[.int .i64 s.kind, .int .i64 s.tx, .int .u16 s.mask, .int .u8 s.k0, .int .u8 s.k1, .int .u8 s.k2, .int .u8 s.k3, .bool s.oT, .int .i64 s.oN, .bool s.nT, .int .i64 s.nN]] W fun e w' => ∃ A2 c2, e = .returned (.tuple #[.slice A2 en c2, .bool (rightB s)]) ∧ Good A2 c2 (encB s) w' ∧ Below W.heap.size W w' := fun W => refEncB_any s okr en hen W
      have E3 : ∀ W, Calls Try.prog 18 #[.agg #[.int .i64 s.kind, .int .i64 s.tx, .int .u16 s.mask, .int .u8 s.k0, .int .u8 s.k1, .int .u8 s.k2, .int .u8 s.k3, .bool s.oT, .int .i64 s.oN, .bool s.nT, .int .i64 s.nN]] W fun e w' => e = .returned (.bool (rightB s)) ∧ Below W.heap.size W w' := fun W => right_any s _ rfl W
      have E4 : ∀ W, Calls Try.prog 19 #[.agg #[.int .i64 s.kind, .int .i64 s.tx, .int .u16 s.mask, .int .u8 s.k0, .int .u8 s.k1, .int .u8 s.k2, .int .u8 s.k3, .bool s.oT, .int .i64 s.oN, .bool s.nT, .int .i64 s.nN]] W fun e w' => e = .returned (.bool (rightB s)) ∧ Below W.heap.size W w' := fun W => refRight_any s _ rfl W
      have E5 : ∀ A2 c2 A3 c3 W, Good A2 c2 (encB s) W → Good A3 c3 (encB s) W → Calls Try.prog 20 #[.slice A2 en c2, .slice A3 en c3] W fun e w' => e = .returned (.bool true) ∧ Below W.heap.size W w' := fun A2 c2 A3 c3 W h h' => sameB A2 A3 (encB s) (encB s) c2 c3 en en true hen hen (by omega) (by omega) (by simp) W h h'
      clear okr hen
      generalize encB s = es at *
      generalize rightB s = so at *
      have i3 : (so != so) = false := by simp
      have q0 : wr.cell? ⟨b, off + j * 11, none⟩ = some (.int .i64 s.kind) := hro 0 _ rfl
      have q1 : wr.cell? ⟨b, off + j * 11 + 1, none⟩ = some (.int .i64 s.tx) := hro 1 _ rfl
      have q2 : wr.cell? ⟨b, off + j * 11 + 2, none⟩ = some (.int .u16 s.mask) := hro 2 _ rfl
      have q3 : wr.cell? ⟨b, off + j * 11 + 3, none⟩ = some (.int .u8 s.k0) := hro 3 _ rfl
      have q4 : wr.cell? ⟨b, off + j * 11 + 4, none⟩ = some (.int .u8 s.k1) := hro 4 _ rfl
      have q5 : wr.cell? ⟨b, off + j * 11 + 5, none⟩ = some (.int .u8 s.k2) := hro 5 _ rfl
      have q6 : wr.cell? ⟨b, off + j * 11 + 6, none⟩ = some (.int .u8 s.k3) := hro 6 _ rfl
      have q7 : wr.cell? ⟨b, off + j * 11 + 7, none⟩ = some (.bool s.oT) := hro 7 _ rfl
      have q8 : wr.cell? ⟨b, off + j * 11 + 8, none⟩ = some (.int .i64 s.oN) := hro 8 _ rfl
      have q9 : wr.cell? ⟨b, off + j * 11 + 9, none⟩ = some (.bool s.nT) := hro 9 _ rfl
      have q10 : wr.cell? ⟨b, off + j * 11 + 10, none⟩ = some (.int .i64 s.nN) := hro 10 _ rfl
      go_wp2_with fail
      (with_reducible refine (E1 _).mono ?_)
      rintro e wa ⟨A1, c1, rfl, ga, ka⟩
      have hra := hro.below ka hbl
      have hbla : b < wa.heap.size := Nat.lt_of_lt_of_le hbl ka.size
      have za := below_more hbel ka (Nat.le_refl _)
      clear q0 q1 q2 q3 q4 q5 q6 q7 q8 q9 q10 hro E1 hbl
      have q0 : wa.cell? ⟨b, off + j * 11, none⟩ = some (.int .i64 s.kind) := hra 0 _ rfl
      have q1 : wa.cell? ⟨b, off + j * 11 + 1, none⟩ = some (.int .i64 s.tx) := hra 1 _ rfl
      have q2 : wa.cell? ⟨b, off + j * 11 + 2, none⟩ = some (.int .u16 s.mask) := hra 2 _ rfl
      have q3 : wa.cell? ⟨b, off + j * 11 + 3, none⟩ = some (.int .u8 s.k0) := hra 3 _ rfl
      have q4 : wa.cell? ⟨b, off + j * 11 + 4, none⟩ = some (.int .u8 s.k1) := hra 4 _ rfl
      have q5 : wa.cell? ⟨b, off + j * 11 + 5, none⟩ = some (.int .u8 s.k2) := hra 5 _ rfl
      have q6 : wa.cell? ⟨b, off + j * 11 + 6, none⟩ = some (.int .u8 s.k3) := hra 6 _ rfl
      have q7 : wa.cell? ⟨b, off + j * 11 + 7, none⟩ = some (.bool s.oT) := hra 7 _ rfl
      have q8 : wa.cell? ⟨b, off + j * 11 + 8, none⟩ = some (.int .i64 s.oN) := hra 8 _ rfl
      have q9 : wa.cell? ⟨b, off + j * 11 + 9, none⟩ = some (.bool s.nT) := hra 9 _ rfl
      have q10 : wa.cell? ⟨b, off + j * 11 + 10, none⟩ = some (.int .i64 s.nN) := hra 10 _ rfl
      go_wp2_with fail
      (with_reducible refine (E2 _).mono ?_)
      rintro e wb ⟨A2, c2, rfl, gb2, kb⟩
      have hrb := hra.below kb hbla
      have hblb : b < wb.heap.size := Nat.lt_of_lt_of_le hbla kb.size
      have zb := below_more za kb (Nat.le_refl _)
      have gab := ga.below kb
      clear q0 q1 q2 q3 q4 q5 q6 q7 q8 q9 q10 hra E2 hbla ga
      have kS : ∀ W, Below wb.heap.size wb W → (W.cell? ⟨b, off + j * 11, none⟩ = some (.int .i64 s.kind) ∧ W.cell? ⟨b, off + j * 11 + 1, none⟩ = some (.int .i64 s.tx) ∧ W.cell? ⟨b, off + j * 11 + 2, none⟩ = some (.int .u16 s.mask) ∧ W.cell? ⟨b, off + j * 11 + 3, none⟩ = some (.int .u8 s.k0) ∧ W.cell? ⟨b, off + j * 11 + 4, none⟩ = some (.int .u8 s.k1) ∧ W.cell? ⟨b, off + j * 11 + 5, none⟩ = some (.int .u8 s.k2) ∧ W.cell? ⟨b, off + j * 11 + 6, none⟩ = some (.int .u8 s.k3) ∧ W.cell? ⟨b, off + j * 11 + 7, none⟩ = some (.bool s.oT) ∧ W.cell? ⟨b, off + j * 11 + 8, none⟩ = some (.int .i64 s.oN) ∧ W.cell? ⟨b, off + j * 11 + 9, none⟩ = some (.bool s.nT) ∧ W.cell? ⟨b, off + j * 11 + 10, none⟩ = some (.int .i64 s.nN) ∧ Below wb.heap.size wb W) := fun W hb => by
        have r' := hrb.below hb hblb
        exact ⟨r' 0 _ rfl, r' 1 _ rfl, r' 2 _ rfl, r' 3 _ rfl, r' 4 _ rfl, r' 5 _ rfl, r' 6 _ rfl, r' 7 _ rfl, r' 8 _ rfl, r' 9 _ rfl, r' 10 _ rfl, hb⟩
      have kd : Below wb.heap.size wb wb.drew := (Below.refl _ _).drew
      have KS := Lib.hid kS
      clear kS hrb
      go_wp2_with fail
      go_region_held3 (fun w' => (w'.cell? ⟨b, off + j * 11, none⟩ = some (.int .i64 s.kind) ∧ w'.cell? ⟨b, off + j * 11 + 1, none⟩ = some (.int .i64 s.tx) ∧ w'.cell? ⟨b, off + j * 11 + 2, none⟩ = some (.int .u16 s.mask) ∧ w'.cell? ⟨b, off + j * 11 + 3, none⟩ = some (.int .u8 s.k0) ∧ w'.cell? ⟨b, off + j * 11 + 4, none⟩ = some (.int .u8 s.k1) ∧ w'.cell? ⟨b, off + j * 11 + 5, none⟩ = some (.int .u8 s.k2) ∧ w'.cell? ⟨b, off + j * 11 + 6, none⟩ = some (.int .u8 s.k3) ∧ w'.cell? ⟨b, off + j * 11 + 7, none⟩ = some (.bool s.oT) ∧ w'.cell? ⟨b, off + j * 11 + 8, none⟩ = some (.int .i64 s.oN) ∧ w'.cell? ⟨b, off + j * 11 + 9, none⟩ = some (.bool s.nT) ∧ w'.cell? ⟨b, off + j * 11 + 10, none⟩ = some (.int .i64 s.nN) ∧ Below wb.heap.size wb w')) (first | assumption | exact KS.out _ kd | exact KS.out _ z3 | exact KS.out _ z4 | exact KS.out _ z5) (first
        | (go_at_call 18; (with_reducible refine (E3 _).mono ?_); rintro e w3 ⟨rfl, k3⟩; have z3 : Below wb.heap.size wb w3 := kd.trans k3)
        | (go_at_call 19; (with_reducible refine (E4 _).mono ?_); rintro e w4 ⟨rfl, k4⟩; have z4 := below_more z3 k4 (Nat.le_refl _))
        | (go_at_call 20; (with_reducible refine (E5 _ _ _ _ _ (gab.below z4) (gb2.below z4)).mono ?_); rintro e w5 ⟨rfl, k5⟩; have z5 := below_more z4 k5 (Nat.le_refl _)))
      go_wp2
      go_roundw
      case rel => exact ⟨j + 1, by omega, by go_num, below_more zb z5 (Nat.le_refl _)⟩
      case measure => simp [intOf]; omega
    · obtain rfl : j = l := by omega
      have rb := rb7.below hbel rb7.at_.lt
      have rc := rc7.below hbel rc7.at_.lt
      have gx := gx7.below hbel
      have gy := gy7.below hbel
      have gp := gp7.below hbel
      have gq := gq7.below hbel
      have gc := gc7.below hbel
      have gb := gb7.below hbel
      have bw := Lib.hid (below_more b7 hbel (Nat.le_refl _))
      clear rb7 rc7 gx7 gy7 gp7 gq7 gc7 gb7 b7 hbel g7
      have hEq : ∀ W : World, (binOp .eql 32 (.agg #[.int .i64 r.kind, .int .i64 r.tx, .int .u16 r.mask, .int .u8 r.k0, .int .u8 r.k1, .int .u8 r.k2, .int .u8 r.k3, .bool r.oT, .int .i64 r.oN, .bool r.nT, .int .i64 r.nN]) (.agg #[.int .i64 r.kind, .int .i64 r.tx, .int .u16 r.mask, .int .u8 r.k0, .int .u8 r.k1, .int .u8 r.k2, .int .u8 r.k3, .bool r.oT, .int .i64 r.oN, .bool r.nT, .int .i64 r.nN])).run Try.prog W = .ok (.bool true) W := fun W => by
        have := run_eqR r r W
        rw [eqR_self] at this
        exact this
      have S1 : ∀ W, GoodR X xc xs W → GoodR Y yc xs W → Calls Try.prog 21 #[.slice X k xc, .slice Y k yc] W fun e w' => e = .returned (.bool true) ∧ Below W.heap.size W w' := fun W h h' => sameR X Y xs k xc yc hrl.out (by omega) W h h'
      have S2 : ∀ W, Good P pc ps W → Good Q qc ps W → Calls Try.prog 20 #[.slice P pn pc, .slice Q pn qc] W fun e w' => e = .returned (.bool true) ∧ Below W.heap.size W w' := fun W h h' => sameB P Q ps ps pc qc pn pn true HPN.out HPN.out (by omega) (by omega) (by simp) W h h'
      have S3 : ∀ W, Good C cc zs W → Good B cb zs W → Calls Try.prog 20 #[.slice C lb cc, .slice B lb cb] W fun e w' => e = .returned (.bool true) ∧ Below W.heap.size W w' := fun W h h' => sameB C B zs zs cc cb lb lb true HLB.out HLB.out (by omega) (by omega) (by simp) W h h'
      have i1 : ((n : Int) == (n : Int)) = true := by simp
      have i2 : ((pk : Int) == (pk : Int)) = true := by simp
      have i4 : (po == po) = true := by simp
      have erb0 : wr.cell? ⟨m1, 0, none⟩ = some (.int .i64 r.kind) := rb.at_.c0
      have erb1 : wr.cell? ⟨m1, 1, none⟩ = some (.int .i64 r.tx) := rb.at_.c1
      have erb2 : wr.cell? ⟨m1, 2, none⟩ = some (.int .u16 r.mask) := rb.at_.c2
      have erb3 : wr.cell? ⟨m1, 3, none⟩ = some (.int .u8 r.k0) := rb.at_.c3
      have erb4 : wr.cell? ⟨m1, 4, none⟩ = some (.int .u8 r.k1) := rb.at_.c4
      have erb5 : wr.cell? ⟨m1, 5, none⟩ = some (.int .u8 r.k2) := rb.at_.c5
      have erb6 : wr.cell? ⟨m1, 6, none⟩ = some (.int .u8 r.k3) := rb.at_.c6
      have erb7 : wr.cell? ⟨m1, 7, none⟩ = some (.bool r.oT) := rb.at_.c7
      have erb8 : wr.cell? ⟨m1, 8, none⟩ = some (.int .i64 r.oN) := rb.at_.c8
      have erb9 : wr.cell? ⟨m1, 9, none⟩ = some (.bool r.nT) := rb.at_.c9
      have erb10 : wr.cell? ⟨m1, 10, none⟩ = some (.int .i64 r.nN) := rb.at_.c10
      have erc0 : wr.cell? ⟨m2, 0, none⟩ = some (.int .i64 r.kind) := rc.at_.c0
      have erc1 : wr.cell? ⟨m2, 1, none⟩ = some (.int .i64 r.tx) := rc.at_.c1
      have erc2 : wr.cell? ⟨m2, 2, none⟩ = some (.int .u16 r.mask) := rc.at_.c2
      have erc3 : wr.cell? ⟨m2, 3, none⟩ = some (.int .u8 r.k0) := rc.at_.c3
      have erc4 : wr.cell? ⟨m2, 4, none⟩ = some (.int .u8 r.k1) := rc.at_.c4
      have erc5 : wr.cell? ⟨m2, 5, none⟩ = some (.int .u8 r.k2) := rc.at_.c5
      have erc6 : wr.cell? ⟨m2, 6, none⟩ = some (.int .u8 r.k3) := rc.at_.c6
      have erc7 : wr.cell? ⟨m2, 7, none⟩ = some (.bool r.oT) := rc.at_.c7
      have erc8 : wr.cell? ⟨m2, 8, none⟩ = some (.int .i64 r.oN) := rc.at_.c8
      have erc9 : wr.cell? ⟨m2, 9, none⟩ = some (.bool r.nT) := rc.at_.c9
      have erc10 : wr.cell? ⟨m2, 10, none⟩ = some (.int .i64 r.nN) := rc.at_.c10
      go_wp2_with fail
      (with_reducible refine (S1 _ gx gy).mono ?_)
      rintro e w3 ⟨rfl, z3⟩
      go_wp2_with fail
      (with_reducible refine (S2 _ (gp.below z3) (gq.below z3)).mono ?_)
      rintro e w4 ⟨rfl, k4⟩
      have z4 := below_more z3 k4 (Nat.le_refl _)
      go_wp2_with fail
      (with_reducible refine (S3 _ (gc.below z4) (gb.below z4)).mono ?_)
      rintro e w5 ⟨rfl, k5⟩
      have z5 := below_more z4 k5 (Nat.le_refl _)
      go_wp2
      go_ret
      exact ⟨rfl, below_more bw.out z5 (Nat.le_refl _)⟩
/-- RecAnswers returns true, for every input. -/
theorem recAnswers_all (HD : ∀ (A : Option Addr) (l c : Nat) (zs : List Int), zs.length = l → isBytes zs → ∀ (w : World), Good A c zs w → Calls Try.prog 11 #[.slice A l c] w (DecSays (decR zs) (decN zs) w))
    (HA : ∀ (A : Option Addr) (l c : Nat) (zs : List Int), zs.length = l → l ≤ 3000 → isBytes zs → ∀ (w : World), Good A c zs w → Calls Try.prog 13 #[.slice A l c] w (AllSays zs w))
    (A : Option Addr) (l c : Nat) (rs : List RecD) (hl : rs.length = l) (m : l ≤ 9223372036854775807) (ok : ∀ r ∈ rs, okR r) (B : Option Addr) (lb cb : Nat) (zs : List Int) (hlb : zs.length = lb) (mb : lb ≤ 9223372036854775807) (hz : isBytes zs) (w : World) (g : GoodR A c rs w) (gb : Good B cb zs w) :
    Calls Try.prog 3 #[.slice A l c, .slice B lb cb] w fun e w' => e = .returned (.bool true) ∧ Below w.heap.size w w' := by
  by_cases h : l ≤ 60 ∧ lb ≤ 1000
  · exact recAnswers_of HD HA A l c rs hl h.1 ok B lb cb zs hlb h.2 hz w g gb
  · exact recAnswers_long A B l c lb cb (by omega) m mb w
end Go.Proofs.Ytlohogcddelekaa

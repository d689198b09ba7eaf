/- The document's own All, on what its Decode answers (HD). The document's own number: the number of so many bytes at a place. The document's own Decode as plain mathematics: what it reads, how many bytes it takes, and that its answer is decR, decN. -/
import Derived.Test.YtdmkkfpbgpijjaaGreatWao
import Derived.Test.YtdmkkfpbgpijjaaGreatWam
import Derived.Test.YtdmkkfpbgpijjaaGreatWaj
namespace Go.Proofs.YtdmkkfpbgpijjaaGreat
open Go.RowKit Go.Deep
set_option linter.unusedVariables false

theorem ownsR_lit (w : World) : OwnsR w.heap.size (w.alloc (.cells #[] 63)) (.slice (some ⟨w.heap.size, 0, none⟩) 0 0) [] := by
  unfold OwnsR
  exact ⟨by simp, .inr ⟨w.heap.size, 0, _, rfl, Nat.le_refl _, heap_alloc_new w _, Nat.le_refl _, by simp only [maxLen]; omega, by simp, by simp⟩⟩
set_option maxRecDepth 100000 in
set_option maxHeartbeats 2000000 in
theorem refAll_of (HD : ∀ (A : Option Addr) (l c : Nat) (zs : List Int), zs.length = l → isBytes zs → ∀ (w : World), Good A c zs w → Calls Tryz.prog 64 #[.slice A l c] w (DecSays (decR zs) (decN zs) w)) (A : Option Addr) (l c : Nat) (zs : List Int) (hl : zs.length = l) (hl2 : l ≤ 3000) (hz : isBytes zs) (w : World) (g : Good A c zs w) :
    Calls Tryz.prog 38 #[.slice A l c] w (AllSays zs w) := by
  have hlc : l ≤ c := by have := g.2.1; omega
  have HL := Lib.hid hl
  go_enter Tryz.func38, Tryz.ntmps38
  go_wp2
  go_loopw [4, 5] (fun v i wr => ∃ k : Nat, i = .int .i64 ((posN zs k : Nat) : Int) ∧ Goes zs k ∧ OwnsR w.heap.size wr v (recsN zs k) ∧ Below w.heap.size w wr) (fun _ i _ => l - (intOf i).toNat)
  case atStart => exact ⟨0, rfl, (fun i hi => absurd hi (by omega)), ownsR_lit w, (Below.refl _ _).alloc (Nat.le_refl _) _⟩
  case round =>
    obtain ⟨k, rfl, hgo, hown, hbel⟩ := hrel
    have hpl : posN zs k ≤ l := by rw [← hl]; exact posN_le zs k
    have hp3 := posN_ge hgo
    have hnx := Lib.hid (posN_succ zs k)
    have hrx := Lib.hid (recsN_succ zs k)
    have hgx := Lib.hid (fun h => hgo.succ h)
    have hst := Lib.hid (fun h => (show Stops zs k from ⟨hgo, h⟩))
    have hrl := recsN_length zs k
    have hdl : decN (zs.drop (posN zs k)) ≤ l - posN zs k := by have := decN_le (zs.drop (posN zs k)); rwa [List.length_drop, hl] at this
    have hle : (zs.drop (posN zs k)).length = l - posN zs k := by rw [List.length_drop, hl]
    have F1 : ∀ A' c', Good A' c' (zs.drop (posN zs k)) wr → Calls Tryz.prog 64 #[.slice A' (l - posN zs k) c'] wr fun e w' => e = .returned (.tuple #[.agg #[.int .i64 (decR (zs.drop (posN zs k))).kind, .int .i64 (decR (zs.drop (posN zs k))).tx, .int .u16 (decR (zs.drop (posN zs k))).mask, .int .u8 (decR (zs.drop (posN zs k))).k0, .int .u8 (decR (zs.drop (posN zs k))).k1, .int .u8 (decR (zs.drop (posN zs k))).k2, .int .u8 (decR (zs.drop (posN zs k))).k3, .bool (decR (zs.drop (posN zs k))).oT, .int .i64 (decR (zs.drop (posN zs k))).oN, .bool (decR (zs.drop (posN zs k))).nT, .int .i64 (decR (zs.drop (posN zs k))).nN], .int .i64 (decN (zs.drop (posN zs k)) : Nat)]) ∧ Below wr.heap.size wr w' := fun A' c' h => HD A' (l - posN zs k) c' (zs.drop (posN zs k)) hle (hz.drop _) wr h
    have gd : ∀ b off, A = some ⟨b, off, none⟩ → Good (some ⟨b, off + posN zs k, none⟩) (c - posN zs k) (zs.drop (posN zs k)) wr := fun b off e => by
      subst e
      exact (g.below hbel).drop (posN zs k) (by omega)
    have gn : posN zs k = l → zs.drop (posN zs k) = [] := fun e => List.drop_of_length_le (by omega)
    generalize decR (zs.drop (posN zs k)) = r at *
    generalize decN (zs.drop (posN zs k)) = n at *
    generalize zs.drop (posN zs k) = ds at *
    generalize hpp : posN zs k = p at *
    have HP := Lib.hid hpp
    clear hpp
    clear hgo hle
    have HRL := Lib.hid hrl
    clear hrl
    cases A with
    | none =>
      obtain ⟨rfl, rfl⟩ := (g.below hbel).none_nil
      have l0 : l = 0 := by have := HL.out; simpa using this.symm
      subst l0
      obtain rfl : p = 0 := by omega
      have e0 := gn rfl
      subst e0
      have n0 : n = 0 := by omega
      subst n0
      have HS := Lib.hid (hst.out rfl)
      clear hst
      have F1' := F1 none 0 (Good.nil wr)
      clear F1 gd gn
      go_wp2_with fail
      (with_reducible refine F1'.mono ?_)
      rintro e w1 ⟨rfl, k1⟩
      have hown1 := hown.below k1
      go_wp2
      go_ret2
      refine ⟨k, _, HS.out, ?_, hown1.below ((Below.refl _ _).alloc (Nat.le_refl _) _), (below_more hbel k1 (Nat.le_refl _)).alloc (below_more hbel k1 (Nat.le_refl _)).size _⟩
      rw [HP.out]; rfl
    | some ad =>
      by_cases hl0 : l = 0
      · subst hl0
        obtain rfl : p = 0 := by omega
        have e0 := gn rfl
        subst e0
        have n0 : n = 0 := by omega
        subst n0
        have HS := Lib.hid (hst.out rfl)
        clear hst gd gn
        have i0 : (0 : Int) ≤ (c : Int) := by omega
        go_wp2_with fail
        refine (F1 _ _ ⟨Ints.nil, by simp, fun e => by cases e⟩).mono ?_
        rintro e w1 ⟨rfl, k1⟩
        have hown1 := hown.below k1
        go_wp2
        go_ret2
        refine ⟨k, _, HS.out, ?_, hown1.below ((Below.refl _ _).alloc (Nat.le_refl _) _), (below_more hbel k1 (Nat.le_refl _)).alloc (below_more hbel k1 (Nat.le_refl _)).size _⟩
        rw [HP.out]; rfl
      obtain ⟨b, off, hab⟩ := g.some (by omega)
      injection hab with hab
      subst hab
      by_cases hce : c = p
      · have hpe : p = l := by omega
        have e0 := gn hpe
        subst e0
        have n0 : n = 0 := by omega
        subst n0
        have HS := Lib.hid (hst.out rfl)
        clear hst
        subst hce
        subst hpe
        rw [Nat.sub_self] at F1
        have F1' := F1 (some ⟨b, off, none⟩) 0 ⟨Ints.nil, by simp, fun e => by cases e⟩
        clear F1 gd gn
        have i0 : (0 : Int) ≤ (c : Int) := by omega
        go_wp2_with fail
        (with_reducible refine F1'.mono ?_)
        rintro e w1 ⟨rfl, k1⟩
        have hown1 := hown.below k1
        go_wp2
        go_ret2
        refine ⟨k, _, HS.out, ?_, hown1.below ((Below.refl _ _).alloc (Nat.le_refl _) _), (below_more hbel k1 (Nat.le_refl _)).alloc (below_more hbel k1 (Nat.le_refl _)).size _⟩
        rw [HP.out]; rfl
      · skip
        have F1' := F1 (some ⟨b, off + p, none⟩) (c - p) (gd b off rfl)
        have i0 : (0 : Int) ≤ (p : Int) := by omega
        have i1 : (p : Int) ≤ (l : Int) := by omega
        have i3 : p ≤ c := by omega
        clear F1 gd gn
        by_cases hn : n = 0
        · subst hn
          have HS := Lib.hid (hst.out rfl)
          clear hst
          go_wp2_with fail
          (with_reducible refine F1'.mono ?_)
          rintro e w1 ⟨rfl, k1⟩
          have hown1 := hown.below k1
          go_wp2
          go_ret2
          refine ⟨k, _, HS.out, ?_, hown1.below ((Below.refl _ _).alloc (Nat.le_refl _) _), (below_more hbel k1 (Nat.le_refl _)).alloc (below_more hbel k1 (Nat.le_refl _)).size _⟩
          rw [HP.out]; rfl
        · have hnb : ((n : Int) == 0) = false := by simp; omega
          go_wp2_with fail
          (with_reducible refine F1'.mono ?_)
          rintro e w1 ⟨rfl, k1⟩
          have hb1 := below_more hbel k1 (Nat.le_refl _)
          have hown1 := (hown.below k1).below ((Below.refl _ _).alloc (Nat.le_refl _) (.cells #[.int .i64 r.kind, .int .i64 r.tx, .int .u16 r.mask, .int .u8 r.k0, .int .u8 r.k1, .int .u8 r.k2, .int .u8 r.k3, .bool r.oT, .int .i64 r.oN, .bool r.nT, .int .i64 r.nN] 63))
          have hb2 : Below w.heap.size w (w1.alloc (.cells #[.int .i64 r.kind, .int .i64 r.tx, .int .u16 r.mask, .int .u8 r.k0, .int .u8 r.k1, .int .u8 r.k2, .int .u8 r.k3, .bool r.oT, .int .i64 r.oN, .bool r.nT, .int .i64 r.nN] 63)) := hb1.alloc hb1.size _
          have hown2 := hown1.below ((Below.refl _ _).alloc (Nat.le_refl _) (.cells #[.int .i64 r.kind, .int .i64 r.tx, .int .u16 r.mask, .int .u8 r.k0, .int .u8 r.k1, .int .u8 r.k2, .int .u8 r.k3, .bool r.oT, .int .i64 r.oN, .bool r.nT, .int .i64 r.nN] 63))
          have hb3 : Below w.heap.size w ((w1.alloc (.cells #[.int .i64 r.kind, .int .i64 r.tx, .int .u16 r.mask, .int .u8 r.k0, .int .u8 r.k1, .int .u8 r.k2, .int .u8 r.k3, .bool r.oT, .int .i64 r.oN, .bool r.nT, .int .i64 r.nN] 63)).alloc (.cells #[.int .i64 r.kind, .int .i64 r.tx, .int .u16 r.mask, .int .u8 r.k0, .int .u8 r.k1, .int .u8 r.k2, .int .u8 r.k3, .bool r.oT, .int .i64 r.oN, .bool r.nT, .int .i64 r.nN] 63)) := hb2.alloc hb2.size _
          have hro : RecO ((w1.alloc (.cells #[.int .i64 r.kind, .int .i64 r.tx, .int .u16 r.mask, .int .u8 r.k0, .int .u8 r.k1, .int .u8 r.k2, .int .u8 r.k3, .bool r.oT, .int .i64 r.oN, .bool r.nT, .int .i64 r.nN] 63)).alloc (.cells #[.int .i64 r.kind, .int .i64 r.tx, .int .u16 r.mask, .int .u8 r.k0, .int .u8 r.k1, .int .u8 r.k2, .int .u8 r.k3, .bool r.oT, .int .i64 r.oN, .bool r.nT, .int .i64 r.nN] 63)) (w1.heap.size + 1) 0 r := by
            have := recO_new (w1.alloc (.cells #[.int .i64 r.kind, .int .i64 r.tx, .int .u16 r.mask, .int .u8 r.k0, .int .u8 r.k1, .int .u8 r.k2, .int .u8 r.k3, .bool r.oT, .int .i64 r.oN, .bool r.nT, .int .i64 r.nN] 63)) r
            rw [show (w1.alloc (.cells #[.int .i64 r.kind, .int .i64 r.tx, .int .u16 r.mask, .int .u8 r.k0, .int .u8 r.k1, .int .u8 r.k2, .int .u8 r.k3, .bool r.oT, .int .i64 r.oN, .bool r.nT, .int .i64 r.nN] 63)).heap.size = w1.heap.size + 1 by simp] at this
            exact this
          have hsz3 := hb3.size
          clear hown1 F1'
          go_wp2_with (at_builtin; refine wpList_appendR rfl _ _ rfl w.heap.size _ _ rfl hown2 r (w1.heap.size + 1) 1 rfl hro (by rw [HRL.out]; omega) hsz3 w hb3 ?_; intro v' w4 hown4 hb4)
          go_roundw
          case rel => exact ⟨k + 1, by rw [hnx.out]; go_num, hgx.out hn, by rw [hrx.out]; exact hown4, hb4⟩
          case measure => simp [intOf]; omega
end Go.Proofs.YtdmkkfpbgpijjaaGreat
namespace Go.Proofs.YtdmkkfpbgpijjaaGreat
open Go.RowKit Go.Deep
set_option linter.unusedVariables false

set_option maxHeartbeats 1000000 in
theorem refNumber_any (b off l c p n q : Nat) (z : Int) (zs : List Int) (hl : zs.length = l) (h1 : 1 ≤ n) (h8 : n ≤ 8) (hp : p + n ≤ l) (hp2 : p ≤ 16) (hz : isBytes zs) (hq : fromN ((zs.drop p).take n) = q) (hzg : zagI q = z) (w : World) (g : Good (some ⟨b, off, none⟩) c zs w) :
    Calls Tryz.prog 74 #[.slice (some ⟨b, off, none⟩) l c, .int .i64 (p : Int), .int .i64 (n : Int)] w fun e w' => e = .returned (.int .i64 z) ∧ w = w' := by
  have hlc : l ≤ c := by have := g.2.1; omega
  have hll : ((zs.drop p).take n).length = n := by rw [List.length_take, List.length_drop]; omega
  have hq64 : q < 18446744073709551616 := by rw [← hq]; exact fromN_8 _ (hz.drop p) n h8
  have gI := ((g.drop p (by omega)).take n).1
  have F1 : ∀ c', Calls Tryz.prog 91 #[.slice (some ⟨b, off + p, none⟩) n c'] w fun e w' => e = .returned (.tuple #[.int .u64 (q : Int), .bool true]) ∧ w = w' := fun c' => refFrom_core _ _ c' n q hll ((hz.drop p).take n) h8 w gI (Lib.hid hq)
  have F2 : Calls Tryz.prog 92 #[.int .u64 (q : Int)] w fun e w' => e = .returned (.int .i64 z) ∧ w = w' := by rw [← hzg]; exact refZag_any q hq64 w
  have hc : c ≠ p := by omega
  have i0 : (0 : Int) ≤ (p : Int) := by omega
  have i1 : (p : Int) ≤ (p : Int) + (n : Int) := by omega
  have i2 : p ≤ c := by omega
  clear hq hzg gI hll hz g hl
  go_enter Tryz.func74, Tryz.ntmps74
  go_wp2_with fail
  (with_reducible refine (F1 _).mono ?_)
  rintro e w1 ⟨rfl, rfl⟩
  go_wp2_with fail
  (with_reducible refine F2.mono ?_)
  rintro e w1 ⟨rfl, rfl⟩
  go_wp2
  go_ret
  exact ⟨rfl, rfl⟩
end Go.Proofs.YtdmkkfpbgpijjaaGreat
namespace Go.Proofs.YtdmkkfpbgpijjaaGreat
set_option linter.unusedVariables false

/-- How many bytes the document's Decode takes, as its head and its flags say. -/
def lenN (b : List Int) : Nat :=
  let k : Int := ((fromN (b.take 3) % 8 : Nat) : Int) + 1
  let f := fromN ((b.drop 7).take 1)
  if k = 2 ∨ k = 8 then 5
  else if k = 1 ∨ k = 7 then 8 + (if f % 2 = 1 then f / 4 % 8 + 1 else 0) + (if f / 2 % 2 = 1 then f / 32 % 8 + 1 else 0)
  else 3
theorem read24_take (c : List Int) : read24 (c.take 24) = read24 c := by
  have e7 : ((c.take 24).drop 7).take 1 = (c.drop 7).take 1 := by rw [List.drop_take, List.take_take]; rfl
  have e3 : ((c.take 24).drop 3).take 2 = (c.drop 3).take 2 := by rw [List.drop_take, List.take_take]; rfl
  have e0 : (c.take 24).take 3 = c.take 3 := by rw [List.take_take]; rfl
  have e8 : (c.take 24).drop 8 = (c.drop 8).take 16 := by rw [List.drop_take]
  have g3 : (c.take 24)[3]? = c[3]? := by rw [List.getElem?_take]; rfl
  have g4 : (c.take 24)[4]? = c[4]? := by rw [List.getElem?_take]; rfl
  have g5 : (c.take 24)[5]? = c[5]? := by rw [List.getElem?_take]; rfl
  have g6 : (c.take 24)[6]? = c[6]? := by rw [List.getElem?_take]; rfl
  have h1 : fromN ((c.drop 7).take 1) / 4 % 8 + 1 ≤ 16 := by omega
  have h2 : fromN ((c.drop 7).take 1) / 32 % 8 + 1 ≤ 8 := by omega
  unfold read24
  simp only [e7, e3, e0, e8, g3, g4, g5, g6]
  rw [rdN_take _ _ _ _ h1, rdR_take, rdN_take _ _ _ _ (by split <;> omega)]
theorem val_size (t : Bool) (n : Int) : (if bitN t = 1 then less t n + 1 else 0) = (valL t n).length := by
  have hb := nb_bd (zigN n)
  cases t
  · simp [bitN, valL]
  · simp [bitN, valL, less, bytesL_length]; omega
theorem len_enc (r : RecD) (h : rightB r = true) (ok : okR r) (s : List Int) : lenN (encL r ++ s) = (encL r).length := by
  obtain ⟨a, b, c, hb⟩ := bytes3 (headN r)
  have hh : fromN [a, b, c] = headN r := by rw [← hb]; exact from_bytes 3 _ (by have := headN_lt r h; simp; omega)
  have hd := head_val r h
  have l3 := less_le r.oT r.oN
  have l4 := less_le r.nT r.nN
  have b3 := bitN_le r.oT
  have b4 := bitN_le r.nT
  have g1 : flagsN r % 2 = bitN r.oT := by unfold flagsN; omega
  have g2 : flagsN r / 2 % 2 = bitN r.nT := by unfold flagsN; omega
  have g3 : flagsN r / 4 % 8 = less r.oT r.oN := by unfold flagsN; omega
  have g4 : flagsN r / 32 % 8 = less r.nT r.nN := by unfold flagsN; omega
  have ff : fromN [(flagsN r : Int)] = flagsN r := by simp [fromN]
  unfold lenN encL
  rw [hb]
  simp only [List.cons_append, List.nil_append, List.take_succ_cons, List.take_zero, List.drop_succ_cons, hh, hd.1]
  by_cases hk : r.kind = 2 ∨ r.kind = 8
  · rw [if_pos hk]
    simp [tailL, hk, bytesL_length]
  · rw [if_neg hk]
    by_cases hk2 : r.kind = 1 ∨ r.kind = 7
    · rw [if_pos hk2]
      simp only [tailL, if_neg hk, if_pos hk2, List.cons_append, List.nil_append, List.take_succ_cons, List.take_zero, List.drop_succ_cons, List.drop_zero, ff, g1, g2, g3, g4, val_size, List.length_cons, List.length_append]
      omega
    · rw [if_neg hk2]
      simp [tailL, hk, hk2]
/-- Where bytes begin with a right record's bytes, the document's Decode reads that one, and takes so many bytes. -/
theorem dec_ref (b : List Int) (hb : isBytes b) (h : decOK b = true) : rightB (read24 b) = true ∧ lenN b ≤ b.length ∧ encL (read24 b) = b.take (lenN b) := by
  obtain ⟨h1, h2⟩ := (decOK_iff b).1 h
  have ok := readL_ok b hb
  generalize readL b = s at *
  obtain ⟨t, rfl⟩ := h2
  have e1 : read24 (encL s ++ t) = s := by rw [← read24_take]; exact read_enc s h1 ok t
  rw [e1, len_enc s h1 ok t]
  exact ⟨h1, by simp, by simp⟩
theorem ref_short (b : List Int) (hb : isBytes b) (h : b.length < 3 ∨ b.length < lenN b) : decR b = zeroR ∧ decN b = 0 := by
  have o : decOK b = false := by
    rw [Bool.eq_false_iff]
    intro e
    have h2 := dec_ref b hb e
    have h3 := decN_le b
    have h4 := decN_bd b
    have h5 : decN b ≠ 0 := fun e0 => by rw [(decN_zero b).1 e0] at e; cases e
    omega
  exact ⟨by simp [decR, o], by simp [decN, o]⟩
theorem ref_other (b : List Int) (hb : isBytes b) (h : ¬ (rightB (read24 b) = true ∧ encL (read24 b) = b.take (lenN b))) : decR b = zeroR ∧ decN b = 0 := by
  have o : decOK b = false := by
    rw [Bool.eq_false_iff]
    intro e
    have h2 := dec_ref b hb e
    exact h ⟨h2.1, h2.2.2⟩
  exact ⟨by simp [decR, o], by simp [decN, o]⟩
theorem ref_yes (b : List Int) (hb : isBytes b) (hl : lenN b ≤ b.length) (h1 : rightB (read24 b) = true) (h2 : encL (read24 b) = b.take (lenN b)) : decR b = read24 b ∧ decN b = lenN b := by
  have h := dec_of b (read24 b) h1 (read24_ok b hb) (by rw [h2]; exact List.take_prefix _ _)
  refine ⟨h.2.1, ?_⟩
  rw [h.2.2, h2, List.length_take]; omega
end Go.Proofs.YtdmkkfpbgpijjaaGreat

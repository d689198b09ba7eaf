/- LockAll. -/
import Derived.Test.YtnfodidfhnofkaaAb
namespace Go.Proofs.Ytnfodidfhnofkaa
open Go.RowKit Go.Deep Go.Maps Go.Lib

theorem grant_fst_in {tx w t : Int} : ∀ {hs : List (Int × Int)}, t ∈ (grantH hs tx w).map Prod.fst → t ∈ hs.map Prod.fst ∨ t = tx
  | [], h => by simp [grantH] at h; exact .inr h
  | p :: hs, h => by
    unfold grantH at h
    split at h
    · rename_i e
      simp only [List.map_cons, List.mem_cons] at h ⊢
      rcases h with h | h
      · exact .inl (.inl h)
      · exact .inl (.inr h)
    · simp only [List.map_cons, List.mem_cons] at h ⊢
      rcases h with h | h
      · exact .inl (.inl h)
      · exact (grant_fst_in h).imp .inr id
theorem goH_in {want : Int → Int} {t : Int} : ∀ {ws : List Int} {hs : List (Int × Int)}, (t ∈ (goH want hs ws).1.map Prod.fst ∨ t ∈ (goH want hs ws).2) → t ∈ hs.map Prod.fst ∨ t ∈ ws
  | [], hs, h => by unfold goH at h; exact h
  | x :: ws, hs, h => by
    unfold goH at h
    split at h
    · rcases goH_in h with h | h
      · exact (grant_fst_in h).imp id fun e => by rw [e]; exact List.mem_cons_self
      · exact .inr (List.mem_cons_of_mem _ h)
    · exact h
/-- Who is freed holds and waits nowhere any more; nobody comes. -/
theorem free_in {st st' : PS} {tx t : Int} {k : KeyT} (h : FreeSays st st' tx) (hr : inRow (st'.row k) t) : inRow (st.row k) t ∧ t ≠ tx := by
  rw [h.row k] at hr
  have := goH_in hr
  rcases this with h1 | h1
  · obtain ⟨p, hp, rfl⟩ := List.mem_map.1 h1
    obtain ⟨a, b⟩ := mem_releaseH.1 hp
    exact ⟨.inl (List.mem_map.2 ⟨p, a, rfl⟩), b⟩
  · obtain ⟨a, b⟩ := mem_leaveW.1 h1
    exact ⟨.inr a, b⟩
theorem no_txs {st : PS} {l : List Int} (h : ∀ k t, ¬ inRow (st.row k) t) (hl : TxsL st l) : l = [] := by
  cases l with
  | nil => rfl
  | cons t l => obtain ⟨k, hk⟩ := (hl.mem t).1 List.mem_cons_self; exact absurd hk (h k t)
theorem no_held {st : PS} {q : PRow → Bool} {l : List KeyT} (hI : Inv st) (h : ∀ k t, ¬ inRow (st.row k) t) (hl : KeysL st q l) : l = [] := by
  cases l with
  | nil => rfl
  | cons k l =>
    obtain ⟨a, _⟩ := (hl.mem k).1 List.mem_cons_self
    have hne := (hI.isSome k).1 a
    cases hs : (st.row k).hs with
    | nil => exact absurd hs hne
    | cons p hs' => exact absurd (.inl (by rw [hs]; exact List.mem_cons_self)) (h k p.1)
theorem no_late {st : PS} {now : Int} {l : List Int} (hI : Inv st) (h : ∀ k t, ¬ inRow (st.row k) t) (hl : LateL st now l) : l = [] := by
  cases l with
  | nil => rfl
  | cons t l =>
    have a := (hl.mem t).1 List.mem_cons_self
    unfold lateB at a
    cases hp : st.wish t with
    | none => rw [hp] at a; cases a
    | some p => exact absurd (.inr (hI.waits hp)) (h p.key t)
theorem inRow_okI {st : PS} (hI : Inv st) {k : KeyT} {t : Int} (h : inRow (st.row k) t) : okI t := by
  rcases h with h | h
  · obtain ⟨p, hp, rfl⟩ := List.mem_map.1 h
    obtain ⟨a, b, _⟩ := (hI.ok k).rg p hp
    unfold okI; omega
  · exact RowOK.okI (hI.ok k) t h
theorem CallsIn.more {B B' : Nat} {w : World} {A : Option Addr} {cs : List PCall} (h : CallsIn B w A cs) (hB : B ≤ B') : CallsIn B' w A cs := fun h0 => by
  obtain ⟨b, off, e, hlt, hc⟩ := h h0
  exact ⟨b, off, e, by omega, hc⟩
set_option maxRecDepth 100000 in
set_option maxHeartbeats 4000000 in
theorem lockAll_any (A : Option Addr) (cap : Nat) (cs : List PCall) (w : World) (hc : CallsIn w.heap.size w A cs) (hok : ∀ c ∈ cs, okC c) (hm : cs.length ≤ maxLen) :
    Calls Try.prog 6 #[.slice A cs.length cap] w fun e w' => e = .returned (.bool true) ∧ Below w.heap.size w w' := by
  have hbig : cs.length ≤ 9223372036854775807 := by unfold maxLen at hm; omega
  have HC := Lib.hid hc
  have HOK := Lib.hid hok
  clear hc hok hm
  obtain ⟨n, hn⟩ : ∃ n, cs.length = n := ⟨_, rfl⟩
  have HN := Lib.hid hn
  rw [hn] at hbig ⊢
  clear hn
  go_enter Try.func6, Try.ntmps6
  go_wp2_with fail
  refine (alive_any w).mono ?_
  rintro e w1 ⟨rfl, hb1⟩
  have HB1 := Lib.hid hb1
  by_cases h60 : 60 < n
  · have h60z : (60 : Int) < (n : Int) := by omega
    clear hb1
    go_wp2_with fail
    go_ret
    exact ⟨rfl, HB1.out⟩
  · have h60z : ¬ (60 : Int) < (n : Int) := by omega
    have hd := do_any A cap cs w1 ((HC.out.below hb1).more hb1.size) HOK.out (by have := HN.out; omega)
    rw [HN.out] at hd
    have HD := Lib.hid hd
    clear hd hb1
    go_wp2_with fail
    refine HD.out.mono ?_
    rintro e w2 ⟨tb, F2, st2, rfl, hr2, ht2⟩
    have HT2 := Lib.hid ht2
    clear hr2 ht2 HD
    go_wp2_with fail
    refine (txs_any F2 tb (2 * n) st2 w2 HT2.out.lock (by omega)).mono ?_
    rintro e w3 ⟨v, l, rfl, hi3, hl3, hb3⟩
    have HT3 := Lib.hid (HT2.out.still hb3)
    have hno3 := Lib.hid (show ∀ b, v.ownBlock = some b → ¬ F2 b from fun b hb e => by have h1 := HT2.out.lock.lt b e; have h2 := (hi3.lt b hb).1; omega)
    have HIN := Lib.hid (show ∀ k t, inRow (st2.row k) t → t ∈ l from fun k t h => (hl3.mem t).2 ⟨k, h⟩)
    have HOL := Lib.hid (show ∀ t ∈ l, okI t from fun t ht => by obtain ⟨k, hk⟩ := (hl3.mem t).1 ht; exact inRow_okI HT2.out.lock.1 hk)
    have HI3 := Lib.hid hi3
    obtain ⟨B, c, rfl, hI⟩ := IntsAt.ints hi3
    have hlb : l.length ≤ 9223372036854775807 := by
      rcases hi3.2 with ⟨_, h0⟩ | ⟨_, _, _, _, _, _, h3, h4, _⟩
      · omega
      · unfold maxLen at h4; omega
    clear hi3 hl3 hb3 hI
    obtain ⟨N, hN⟩ : ∃ N, l.length = N := ⟨_, rfl⟩
    have HNN := Lib.hid hN
    rw [hN] at hlb hno3 HI3 ⊢
    clear hN
    go_wp2_with fail
    go_loopg [5] N (fun gg s5 wr => ∃ (kk : Nat) (F : Nat → Prop) (st : PS), kk ≤ N ∧ N - kk ≤ gg ∧ s5 = .int .i64 kk ∧ Hid (∀ k t, inRow (st.row k) t → t ∈ l.drop kk) ∧ Hid (Tb w1 wr F tb (2 * n) st) ∧ Hid (∀ b, (Value.slice B N c).ownBlock = some b → ¬ F b) ∧ Hid (IntsAt wr w2.heap.size (.slice B N c) l))
    case atStart => exact ⟨0, F2, st2, Nat.zero_le _, by omega, rfl, Lib.hid HIN.out, HT3, hno3, HI3⟩
    case round =>
      obtain ⟨kk, F, st, hkk, hgg, rfl, HIR, HT, HNO, HL⟩ := hrel
      by_cases hlt : kk < N
      · have hltz : (kk : Int) < (N : Int) := by omega
        obtain ⟨t, ht⟩ : ∃ t, l[kk]? = some t := ⟨_, List.getElem?_eq_getElem (by have := HNN.out; omega)⟩
        have hdr : l.drop kk = t :: l.drop (kk + 1) := by
          obtain ⟨hlt', e⟩ := List.getElem?_eq_some_iff.1 ht
          rw [List.drop_eq_getElem_cons hlt', e]
        have HDR := Lib.hid hdr
        obtain ⟨B', c', e, hI⟩ := IntsAt.ints HL.out
        simp only [Value.slice.injEq] at e
        obtain ⟨rfl, -, rfl⟩ := e
        obtain ⟨b, off, rfl, hbl, hcl⟩ := hI (by have := HNN.out; omega)
        have hcv := hcl kk (by have := HNN.out; omega)
        rw [ht] at hcv
        have hcv : wr.cell? ⟨b, off + kk, none⟩ = some (.int .i64 t) := hcv
        have HOT := Lib.hid (HOL.out t (List.mem_of_getElem? ht))
        clear hcl hdr ht hI
        go_wp2_with fail
        refine (free_any F tb (2 * n) st t wr HT.out.lock (by omega) HOT.out).mono ?_
        rintro e w4 ⟨rfl, st', hf, h4, m4⟩
        have HF := Lib.hid hf
        have T4 := Lib.hid (HT.out.step h4 m4)
        have HL4 := Lib.hid (ints_moves HL.out m4 HNO.out)
        have HNO4 := Lib.hid (show ∀ x, (Value.slice (some ⟨b, off, none⟩) N c).ownBlock = some x → ¬ grow F wr w4 x from fun x hx e => e.elim (HNO.out x hx) (fun e => by have := (HL.out.lt x hx).2; omega))
        clear hf h4 m4 hcv
        go_wp2_with fail
        go_roundg (N - (kk + 1))
        case measure => omega
        case rel =>
          refine ⟨kk + 1, _, st', by omega, by omega, by go_num, Lib.hid (fun k x hx => ?_), T4, HNO4, HL4⟩
          obtain ⟨a1, a2⟩ := free_in HF.out hx
          have := HIR.out k x a1
          rw [HDR.out] at this
          rcases List.mem_cons.1 this with h | h
          · exact absurd h a2
          · exact h
      · obtain rfl : kk = N := by omega
        have HNI := Lib.hid (show ∀ k t, ¬ inRow (st.row k) t from fun k t h => by
          have := HIR.out k t h
          rw [List.drop_eq_nil_of_le (Nat.le_of_eq HNN.out)] at this
          cases this)
        go_wp2_with fail
        refine (txs_any F tb (2 * n) st wr HT.out.lock (by omega)).mono ?_
        rintro e w4 ⟨v4, l4, rfl, hi4, hl4, hb4⟩
        obtain rfl := no_txs HNI.out hl4
        obtain ⟨B4, c4, rfl, _⟩ := IntsAt.ints hi4
        have T4 := Lib.hid (HT.out.still hb4)
        clear hi4 hl4 hb4
        go_wp2_with fail
        refine (held_any F tb (2 * n) st w4 T4.out.lock (by omega)).mono ?_
        rintro e w5 ⟨v5, l5, rfl, hi5, hl5, hb5⟩
        obtain rfl := no_held T4.out.lock.1 HNI.out hl5
        obtain ⟨B5, c5, rfl⟩ := hi5.isSlice
        have T5 := Lib.hid (T4.out.still hb5)
        clear hi5 hl5 hb5
        go_wp2_with fail
        refine (late_any F tb (2 * n) st 1125899906842624 w5 T5.out.lock (by omega)).mono ?_
        rintro e w6 ⟨v6, l6, rfl, hi6, hl6, hb6⟩
        obtain rfl := no_late T5.out.lock.1 HNI.out hl6
        obtain ⟨B6, c6, rfl, _⟩ := IntsAt.ints hi6
        have T6 := Lib.hid (T5.out.still hb6)
        clear hi6 hl6 hb6
        go_wp2_with fail
        go_ret
        exact ⟨rfl, HB1.out.trans (T6.out.below.mono HB1.out.size)⟩
end Go.Proofs.Ytnfodidfhnofkaa

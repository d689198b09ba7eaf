/- set.readStretch: what it reads of a text, for every text. -/
import Derived.Test.YthmccldkknhejaaDoorPh
import Derived.Lib.CutLaws
import Derived.Lib.IndexBytes
import Derived.Laws.Strings3
namespace Go.Proofs.YthmccldkknhejaaDoor
open Go.RowKit
set_option linter.unusedVariables false

/-- The table of package math/bits and the two errors of package strconv lie as their text lays them. -/
structure Gnd (w : World) : Prop where
  tab : Tab w
  syn : ∃ te pe, w.cell? ⟨4, 0, none⟩ = some (.iface te pe)
  ran : ∃ te pe, w.cell? ⟨5, 0, none⟩ = some (.iface te pe)
theorem Gnd.lt {w : World} (h : Gnd w) : 0 < w.heap.size := World.block_lt_of_cell? w _ (h.tab 0 (by decide))
theorem Gnd.below {w w' : World} (h : Gnd w) (hb : Below w.heap.size w w') : Gnd w' := by
  obtain ⟨h1, ⟨te, pe, h2⟩, ⟨te', pe', h3⟩⟩ := h
  have l1 := World.block_lt_of_cell? w _ (h1 0 (by decide))
  have l2 := World.block_lt_of_cell? w _ h2
  have l3 := World.block_lt_of_cell? w _ h3
  exact ⟨tab_below h1 hb l1, ⟨te, pe, (hb.cell (p := ⟨4, 0, none⟩) l2).trans h2⟩, ⟨te', pe', (hb.cell (p := ⟨5, 0, none⟩) l3).trans h3⟩⟩

set_option maxRecDepth 100000 in
set_option maxHeartbeats 1000000 in
theorem cutLite_any (s : ByteArray) (w : World) (hs : s.size ≤ 100000) :
    Calls Tryd.prog 59 #[.string s, .string ⟨#[45]⟩] w fun e w' => e = .returned (.tuple #[.string ⟨(Lib.cut s.data.toList [45]).1.toArray⟩, .string ⟨(Lib.cut s.data.toList [45]).2.1.toArray⟩, .bool (Lib.cut s.data.toList [45]).2.2]) ∧ Dr w w' := by
  have hI := Tryd.stringslite_Index_one s 45
  rw [← Lib.index_one] at hI
  rcases Lib.indexB_cases s ⟨#[45]⟩ with hix | ⟨i, hix, hroom⟩
  · obtain ⟨e1, e2, e3⟩ := Lib.cutB_miss s ⟨#[45]⟩ hix
    have e1 : (⟨(Lib.cut s.data.toList [45]).1.toArray⟩ : ByteArray) = s := e1
    have e2 : (⟨(Lib.cut s.data.toList [45]).2.1.toArray⟩ : ByteArray) = ByteArray.empty := e2
    have e3 : (Lib.cut s.data.toList [45]).2.2 = false := e3
    rw [e1, e2, e3]
    have hix : Lib.index s.data.toList [45] = -1 := hix
    rw [hix] at hI
    go_enter Tryd.func59, Tryd.ntmps59
    go_wp2_with (go_at_call 65; refine (hI _).mono ?_; rintro e w' ⟨rfl, rfl⟩)
    go_ret3
    exact ⟨rfl, Dr.refl _⟩
  · obtain ⟨e1, e2, e3⟩ := Lib.cutB_hit s ⟨#[45]⟩ i hix
    have e1 : (⟨(Lib.cut s.data.toList [45]).1.toArray⟩ : ByteArray) = s.extract 0 i := e1
    have e2 : (⟨(Lib.cut s.data.toList [45]).2.1.toArray⟩ : ByteArray) = s.extract (i + 1) s.size := e2
    have e3 : (Lib.cut s.data.toList [45]).2.2 = true := e3
    rw [e1, e2, e3]
    have hix : Lib.index s.data.toList [45] = i := hix
    rw [hix] at hI
    have hroom : i + 1 ≤ s.size := hroom
    have c1 : (0 : Int) ≤ ↑i := by omega
    have c2 : (↑i : Int) ≤ ↑s.size := by omega
    have c3 : (0 : Int) ≤ ↑i + 1 := by omega
    have c4 : (↑i + 1 : Int) ≤ ↑s.size := by omega
    go_enter Tryd.func59, Tryd.ntmps59
    go_wp2_with (go_at_call 65; refine (hI _).mono ?_; rintro e w' ⟨rfl, rfl⟩)
    go_region
    go_wp2
    go_ret3
    exact ⟨rfl, ⟨1, rfl⟩⟩
set_option maxRecDepth 100000 in
set_option maxHeartbeats 1000000 in
theorem cut_any (s : ByteArray) (w : World) (hs : s.size ≤ 100000) :
    Calls Tryd.prog 46 #[.string s, .string ⟨#[45]⟩] w fun e w' => e = .returned (.tuple #[.string ⟨(Lib.cut s.data.toList [45]).1.toArray⟩, .string ⟨(Lib.cut s.data.toList [45]).2.1.toArray⟩, .bool (Lib.cut s.data.toList [45]).2.2]) ∧ Dr w w' := by
  have hC := cutLite_any s
  go_enter Tryd.func46, Tryd.ntmps46
  go_wp2_with (go_at_call 59; refine (hC _ hs).mono ?_; rintro e w' ⟨rfl, n, rfl⟩)
  go_ret3
  exact ⟨rfl, ⟨n, rfl⟩⟩

/-- Atoi's answer: the number and no error, or an error. -/
theorem atoi_yes (s : ByteArray) (v : Int) (hs : s.size ≤ 100000) (h : Lib.atoiAll s.data.toList = .ok v) (w : World) :
    Calls Tryd.prog 60 #[.string s] w fun e w' => e = .returned (.tuple #[.int .i64 v, .nilIface]) ∧ Below w.heap.size w w' := by
  refine (Tryd.strconv_Atoi_ok s (by omega) v h w).mono ?_
  rintro e w' ⟨rfl, rfl | ⟨t, rfl⟩⟩
  · exact ⟨rfl, Below.refl _ _⟩
  · exact ⟨rfl, Lib.bytesWorld_below _ _ _⟩
theorem atoi_no (s : ByteArray) (hs : s.size ≤ 100000) (h : ∀ v, Lib.atoiAll s.data.toList ≠ .ok v) (w : World) (hG : Gnd w) :
    Calls Tryd.prog 60 #[.string s] w fun e w' => (∃ v te pe, e = .returned (.tuple #[.int .i64 v, .iface te pe]) ∧ -9223372036854775808 ≤ v ∧ v ≤ 9223372036854775807) ∧ Below w.heap.size w w' := by
  rcases hx : Lib.atoiAll s.data.toList with v | _ | _
  · exact absurd hx (h v)
  · obtain ⟨te, pe, hc⟩ := hG.syn
    refine (Tryd.strconv_Atoi_syntax s (by omega) hx _ w hc (.inr ⟨te, pe, rfl⟩)).mono ?_
    rintro e w' ⟨N, rfl, _, _, hb⟩
    exact ⟨⟨0, _, _, rfl, by decide, by decide⟩, hb⟩
  · obtain ⟨te, pe, hc⟩ := hG.ran
    refine (Tryd.strconv_Atoi_range s (by omega) hx _ w hc (.inr ⟨te, pe, rfl⟩)).mono ?_
    rintro e w' ⟨N, rfl, _, _, hb⟩
    have := Lib.atoiSat_bounds s.data.toList
    exact ⟨⟨_, _, _, rfl, this.1, this.2⟩, hb⟩

theorem readCat_some {b : List UInt8} {k : Nat} (h : readCatN b = some k) : Lib.atoiAll b = .ok (k : Int) ∧ isCat (k : Int) = true := by
  unfold readCatN at h
  split at h
  · rename_i v hv
    split at h
    · rename_i hb
      have e : v.toNat = k := by simpa using h
      have : v = (k : Int) := by omega
      subst this
      exact ⟨hv, by simp [isCat]; omega⟩
    · cases h
  · cases h
theorem readCat_none {b : List UInt8} (h : readCatN b = none) : (∀ v, Lib.atoiAll b ≠ .ok v) ∨ ∃ v, Lib.atoiAll b = .ok v ∧ isCat v = false := by
  unfold readCatN at h
  split at h
  · rename_i v hv
    split at h
    · cases h
    · rename_i hb
      exact .inr ⟨v, hv, by simp [isCat]; omega⟩
  · rename_i hne
    exact .inl (fun v hv => hne v hv)
set_option maxRecDepth 100000 in
set_option maxHeartbeats 1000000 in
theorem readCat_yes (s : ByteArray) (k : Nat) (hs : s.size ≤ 100000) (h : readCatN s.data.toList = some k) (w : World) :
    Calls Tryd.prog 47 #[.string s] w fun e w' => e = .returned (.tuple #[.int .i64 k, .bool true]) ∧ Below w.heap.size w w' := by
  obtain ⟨h1, h2⟩ := readCat_some h
  have cA := atoi_yes s k hs h1
  have cI := isCat_any k
  rw [h2] at cI
  clear h1 h2
  go_enter Tryd.func47, Tryd.ntmps47
  go_wp2_with fail
  refine (cA _).mono ?_
  rintro e w1 ⟨rfl, hb⟩
  go_wp2_with fail
  refine (cI _).mono ?_
  rintro e w' ⟨rfl, rfl⟩
  go_wp2_with fail
  go_ret2
  exact ⟨rfl, hb⟩
set_option maxRecDepth 100000 in
set_option maxHeartbeats 1000000 in
theorem readCat_no (s : ByteArray) (hs : s.size ≤ 100000) (h : readCatN s.data.toList = none) (w : World) (hG : Gnd w) :
    Calls Tryd.prog 47 #[.string s] w fun e w' => (∃ v, e = .returned (.tuple #[.int .i64 v, .bool false])) ∧ Below w.heap.size w w' := by
  rcases readCat_none h with h1 | ⟨v, h1, h2⟩
  · have cA := atoi_no s hs h1
    clear h1
    go_enter Tryd.func47, Tryd.ntmps47
    go_wp2_with fail
    refine (cA _ hG).mono ?_
    rintro e w1 ⟨⟨v, te, pe, rfl, hv1, hv2⟩, hb⟩
    go_wp2_with fail
    go_ret2
    exact ⟨⟨v, rfl⟩, hb⟩
  · have cA := atoi_yes s v hs h1
    have cI := isCat_any v
    rw [h2] at cI
    clear h1 h2
    go_enter Tryd.func47, Tryd.ntmps47
    go_wp2_with fail
    refine (cA _).mono ?_
    rintro e w1 ⟨rfl, hb⟩
    go_wp2_with fail
    refine (cI _).mono ?_
    rintro e w' ⟨rfl, rfl⟩
    go_wp2_with fail
    go_ret2
    exact ⟨⟨v, rfl⟩, hb⟩

/-- The two texts of a stretch's text. -/
def fromL (b : List UInt8) : List UInt8 := (Lib.cut b [45]).1
def toL (b : List UInt8) : List UInt8 := if (Lib.cut b [45]).2.2 then (Lib.cut b [45]).2.1 else (Lib.cut b [45]).1
theorem cut_len (b : List UInt8) : (Lib.cut b [45]).1.length ≤ b.length ∧ (Lib.cut b [45]).2.1.length ≤ b.length := by
  unfold Lib.cut
  split
  · simp; omega
  · simp
set_option maxRecDepth 100000 in
set_option maxHeartbeats 1000000 in
theorem readStr_any (b : List UInt8) (u : Nat) (hs : b.length ≤ 100000) (hu : readStrN b = u) (w : World) (hG : Gnd w) :
    Calls Tryd.prog 36 #[.string (strB b)] w fun e w' => e = .returned (.int .u64 u) ∧ Below w.heap.size w w' := by
  have cC := fun W => cut_any (strB b) W hs
  obtain ⟨l1, l2⟩ := cut_len b
  rw [strB_list] at cC
  unfold readStrN at hu
  obtain ⟨f, hf⟩ : ∃ f, (Lib.cut b [45]).1 = f := ⟨_, rfl⟩
  obtain ⟨t, ht⟩ : ∃ t, (Lib.cut b [45]).2.1 = t := ⟨_, rfl⟩
  obtain ⟨o, ho⟩ : ∃ o, (Lib.cut b [45]).2.2 = o := ⟨_, rfl⟩
  rw [hf, ht, ho] at cC hu
  rw [hf] at l1
  rw [ht] at l2
  clear hf ht ho
  have key : ∀ (g : List UInt8), g.length ≤ 100000 → f.length ≤ 100000 → (match readCatN f, readCatN g with
      | some f, some l => spanN f l
      | _, _ => 0) = u → (∀ W : World, Calls Tryd.prog 46 #[.string (strB b), .string ⟨#[45]⟩] W fun e w' => e = .returned (.tuple #[.string (strB f), .string (strB t), .bool o]) ∧ Dr W w') → (if o then t else f) = g →
      Calls Tryd.prog 36 #[.string (strB b)] w fun e w' => e = .returned (.int .u64 u) ∧ Below w.heap.size w w' := by
    intro g hgl hfl hu cC hg
    cases hrf : readCatN f with
    | none =>
      have hu0 : u = 0 := by rw [hrf] at hu; exact hu.symm
      subst hu0
      have c1 := fun W hW => readCat_no (strB f) hfl hrf W hW
      have c2 : ∀ W : World, Gnd W → Calls Tryd.prog 47 #[.string (strB g)] W fun e w' => (∃ v o, e = .returned (.tuple #[.int .i64 v, .bool o])) ∧ Below W.heap.size W w' := fun W hW => by
        cases hrg : readCatN g with
        | none =>
          refine (readCat_no (strB g) hgl hrg W hW).mono ?_
          rintro e w' ⟨⟨v, rfl⟩, hb⟩
          exact ⟨⟨v, false, rfl⟩, hb⟩
        | some k =>
          refine (readCat_yes (strB g) k hgl hrg W).mono ?_
          rintro e w' ⟨rfl, hb⟩
          exact ⟨⟨k, true, rfl⟩, hb⟩
      clear hu
      cases o with
      | true =>
        obtain rfl : t = g := hg
        go_enter Tryd.func36, Tryd.ntmps36
        go_wp2_with fail
        refine (cC _).mono ?_
        rintro e w0 ⟨rfl, hd⟩
        have hb0 := hd.below w.heap.size (Nat.le_refl _)
        have hG0 := hG.below hb0
        go_wp2_with fail
        refine (c1 _ hG0).mono ?_
        rintro e w1 ⟨⟨v, rfl⟩, hb1⟩
        have hG1 := hG0.below hb1
        go_wp2_with fail
        refine (c2 _ hG1).mono ?_
        rintro e w2 ⟨⟨v2, o2, rfl⟩, hb2⟩
        have hbb := below_more (below_more hb0 hb1 (Nat.le_refl _)) hb2 (Nat.le_refl _)
        go_wp2_with fail
        go_ret
        exact ⟨rfl, hbb⟩
      | false =>
        obtain rfl : f = g := hg
        go_enter Tryd.func36, Tryd.ntmps36
        go_wp2_with fail
        refine (cC _).mono ?_
        rintro e w0 ⟨rfl, hd⟩
        have hb0 := hd.below w.heap.size (Nat.le_refl _)
        have hG0 := hG.below hb0
        go_wp2_with fail
        refine (c1 _ hG0).mono ?_
        rintro e w1 ⟨⟨v, rfl⟩, hb1⟩
        have hG1 := hG0.below hb1
        go_wp2_with fail
        refine (c2 _ hG1).mono ?_
        rintro e w2 ⟨⟨v2, o2, rfl⟩, hb2⟩
        have hbb := below_more (below_more hb0 hb1 (Nat.le_refl _)) hb2 (Nat.le_refl _)
        go_wp2_with fail
        go_ret
        exact ⟨rfl, hbb⟩
    | some k =>
      have hk := readCat_lt hrf
      have c1 := fun W => readCat_yes (strB f) k hfl hrf W
      cases hrg : readCatN g with
      | none =>
        have hu0 : u = 0 := by rw [hrf, hrg] at hu; exact hu.symm
        subst hu0
        have c2 := fun W hW => readCat_no (strB g) hgl hrg W hW
        clear hu
        cases o with
        | true =>
          obtain rfl : t = g := hg
          go_enter Tryd.func36, Tryd.ntmps36
          go_wp2_with fail
          refine (cC _).mono ?_
          rintro e w0 ⟨rfl, hd⟩
          have hb0 := hd.below w.heap.size (Nat.le_refl _)
          have hG0 := hG.below hb0
          go_wp2_with fail
          refine (c1 _).mono ?_
          rintro e w1 ⟨rfl, hb1⟩
          have hG1 := hG0.below hb1
          go_wp2_with fail
          refine (c2 _ hG1).mono ?_
          rintro e w2 ⟨⟨v2, rfl⟩, hb2⟩
          have hbb := below_more (below_more hb0 hb1 (Nat.le_refl _)) hb2 (Nat.le_refl _)
          go_wp2_with fail
          go_ret
          exact ⟨rfl, hbb⟩
        | false =>
          obtain rfl : f = g := hg
          go_enter Tryd.func36, Tryd.ntmps36
          go_wp2_with fail
          refine (cC _).mono ?_
          rintro e w0 ⟨rfl, hd⟩
          have hb0 := hd.below w.heap.size (Nat.le_refl _)
          have hG0 := hG.below hb0
          go_wp2_with fail
          refine (c1 _).mono ?_
          rintro e w1 ⟨rfl, hb1⟩
          have hG1 := hG0.below hb1
          go_wp2_with fail
          refine (c2 _ hG1).mono ?_
          rintro e w2 ⟨⟨v2, rfl⟩, hb2⟩
          have hbb := below_more (below_more hb0 hb1 (Nat.le_refl _)) hb2 (Nat.le_refl _)
          go_wp2_with fail
          go_ret
          exact ⟨rfl, hbb⟩
      | some l =>
        have hl := readCat_lt hrg
        have hu0 : spanN k l = u := by rw [hrf, hrg] at hu; exact hu
        have c2 := fun W => readCat_yes (strB g) l hgl hrg W
        obtain ⟨bl, hbl⟩ : ∃ bl, 2 ^ l - 1 = bl := ⟨_, rfl⟩
        obtain ⟨ol, hol⟩ : ∃ ol, 2 ^ l = ol := ⟨_, rfl⟩
        obtain ⟨bk, hbk⟩ : ∃ bk, 2 ^ k - 1 = bk := ⟨_, rfl⟩
        have hbl2 : bl < 18446744073709551616 := by rw [← hbl]; exact below_lt hl
        have hol2 : ol < 18446744073709551616 := by rw [← hol]; exact one_lt hl
        have hbk2 : bk < 18446744073709551616 := by rw [← hbk]; exact below_lt hk
        obtain ⟨x, hx⟩ : ∃ x, bl ||| ol = x := ⟨_, rfl⟩
        have hx2 : x < 18446744073709551616 := by rw [← hx]; exact or_lt hbl2 hol2
        have hor : bits .or .u64 (bl : Int) (ol : Int) = (x : Int) := by rw [bits_or_u64_nat bl ol hbl2 hol2, hx]
        have cB1 := below_any l bl hl hbl
        have cO := only_any l ol hl hol
        have cB2 := below_any k bk hk hbk
        have cM := minus_any x bk u hx2 hbk2 (by rw [← hu0, ← hx, ← hbk]; unfold spanN; rw [hbl, hol])
        clear hu hu0 hbl hol hbk hx hrf hrg
        cases o with
        | true =>
          obtain rfl : t = g := hg
          go_enter Tryd.func36, Tryd.ntmps36
          go_wp2_with fail
          refine (cC _).mono ?_
          rintro e w0 ⟨rfl, hd⟩
          have hb0 := hd.below w.heap.size (Nat.le_refl _)
          have hG0 := hG.below hb0
          go_wp2_with fail
          refine (c1 _).mono ?_
          rintro e w1 ⟨rfl, hb1⟩
          have hG1 := hG0.below hb1
          go_wp2_with fail
          refine (c2 _).mono ?_
          rintro e w2 ⟨rfl, hb2⟩
          have hbb := below_more (below_more hb0 hb1 (Nat.le_refl _)) hb2 (Nat.le_refl _)
          go_wp2_with fail
          refine (cB1 _).mono ?_
          rintro e w' ⟨rfl, rfl⟩
          go_wp2_with fail
          refine (cO _).mono ?_
          rintro e w' ⟨rfl, rfl⟩
          go_wp2_with fail
          refine (cB2 _).mono ?_
          rintro e w' ⟨rfl, rfl⟩
          go_wp2_with fail
          refine (cM _).mono ?_
          rintro e w' ⟨rfl, rfl⟩
          go_wp2_with fail
          go_ret
          exact ⟨rfl, hbb⟩
        | false =>
          obtain rfl : f = g := hg
          go_enter Tryd.func36, Tryd.ntmps36
          go_wp2_with fail
          refine (cC _).mono ?_
          rintro e w0 ⟨rfl, hd⟩
          have hb0 := hd.below w.heap.size (Nat.le_refl _)
          have hG0 := hG.below hb0
          go_wp2_with fail
          refine (c1 _).mono ?_
          rintro e w1 ⟨rfl, hb1⟩
          have hG1 := hG0.below hb1
          go_wp2_with fail
          refine (c2 _).mono ?_
          rintro e w2 ⟨rfl, hb2⟩
          have hbb := below_more (below_more hb0 hb1 (Nat.le_refl _)) hb2 (Nat.le_refl _)
          go_wp2_with fail
          refine (cB1 _).mono ?_
          rintro e w' ⟨rfl, rfl⟩
          go_wp2_with fail
          refine (cO _).mono ?_
          rintro e w' ⟨rfl, rfl⟩
          go_wp2_with fail
          refine (cB2 _).mono ?_
          rintro e w' ⟨rfl, rfl⟩
          go_wp2_with fail
          refine (cM _).mono ?_
          rintro e w' ⟨rfl, rfl⟩
          go_wp2_with fail
          go_ret
          exact ⟨rfl, hbb⟩
  exact key (if o then t else f) (by split <;> omega) (by omega) hu cC rfl
end Go.Proofs.YthmccldkknhejaaDoor

/- rec.Join: the bytes of records, for every list of records. -/
import Derived.Test.YtlohogcddelekaaEo
namespace Go.Proofs.Ytlohogcddelekaa
open Go.RowKit Go.Deep
set_option linter.unusedVariables false

def JoinSays (rs : List RecD) (w : World) (e : Ending) (w' : World) : Prop :=
  (rs.all rightB = true ∧ ∃ v, e = .returned (.tuple #[v, .bool true]) ∧ Owns w.heap.size w' v (joinL rs) ∧ Below w.heap.size w w') ∨
  (rs.all rightB = false ∧ e = .returned (.tuple #[.slice none 0 0, .bool false]) ∧ Below w.heap.size w w')
theorem owns_nil (B : Nat) (w : World) : Owns B w (.slice none 0 0) [] := ⟨rfl, .inl ⟨rfl, rfl⟩⟩
set_option maxRecDepth 100000 in
set_option maxHeartbeats 2000000 in
theorem join_any (A : Option Addr) (l c : Nat) (rs : List RecD) (hl : rs.length = l) (hl2 : l ≤ 60) (ok : ∀ r ∈ rs, okR r) (w : World) (g : GoodR A c rs w) :
    Calls Try.prog 14 #[.slice A l c] w (JoinSays rs w) := by
  have HL := Lib.hid hl
  go_enter Try.func14, Try.ntmps14
  go_wp2
  go_loopw [4, 11] (fun v i wr => ∃ k : Nat, k ≤ l ∧ i = .int .i64 k ∧ (∀ r ∈ rs.take k, rightB r = true) ∧ Owns w.heap.size wr v (joinL (rs.take k)) ∧ Below w.heap.size w wr) (fun v i _ => l - (intOf i).toNat)
  case atStart => exact ⟨0, Nat.zero_le _, rfl, (fun r hr => by simp at hr), owns_nil _ _, Below.refl _ _⟩
  case round =>
    obtain ⟨k, hk, rfl, hall, hown, hbel⟩ := hrel
    by_cases hlt : k < l
    · have hkl : k < rs.length := by omega
      have hxs := List.take_succ_eq_append_getElem hkl
      have hmem : rs[k] ∈ rs := List.getElem_mem hkl
      have okr := ok _ hmem
      obtain ⟨b, off, rfl, hbl, hro⟩ := (g.below hbel).cells k hkl
      have hjl := joinL_le (rs.take k)
      rw [List.length_take] at hjl
      have hjs := Lib.hid (joinL_snoc (rs.take k) rs[k])
      have hal := Lib.hid (fun h => (show ∀ r ∈ rs.take (k + 1), rightB r = true from fun r hr => by
        rw [hxs] at hr
        rcases List.mem_append.1 hr with hr | hr
        · exact hall r hr
        · simp at hr; subst hr; exact h))
      have hno := Lib.hid (fun (h : rightB rs[k] = false) => (show rs.all rightB = false by
        rw [Bool.eq_false_iff]
        intro e
        rw [List.all_eq_true] at e
        rw [e _ hmem] at h
        cases h))
      have HX := Lib.hid hxs
      clear hxs hmem hall
      generalize hr0 : rs[k] = r at *
      clear hr0 hkl
      have q0 : wr.cell? ⟨b, off + k * 11, none⟩ = some (.int .i64 r.kind) := hro 0 _ rfl
      have q1 : wr.cell? ⟨b, off + k * 11 + 1, none⟩ = some (.int .i64 r.tx) := hro 1 _ rfl
      have q2 : wr.cell? ⟨b, off + k * 11 + 2, none⟩ = some (.int .u16 r.mask) := hro 2 _ rfl
      have q3 : wr.cell? ⟨b, off + k * 11 + 3, none⟩ = some (.int .u8 r.k0) := hro 3 _ rfl
      have q4 : wr.cell? ⟨b, off + k * 11 + 4, none⟩ = some (.int .u8 r.k1) := hro 4 _ rfl
      have q5 : wr.cell? ⟨b, off + k * 11 + 5, none⟩ = some (.int .u8 r.k2) := hro 5 _ rfl
      have q6 : wr.cell? ⟨b, off + k * 11 + 6, none⟩ = some (.int .u8 r.k3) := hro 6 _ rfl
      have q7 : wr.cell? ⟨b, off + k * 11 + 7, none⟩ = some (.bool r.oT) := hro 7 _ rfl
      have q8 : wr.cell? ⟨b, off + k * 11 + 8, none⟩ = some (.int .i64 r.oN) := hro 8 _ rfl
      have q9 : wr.cell? ⟨b, off + k * 11 + 9, none⟩ = some (.bool r.nT) := hro 9 _ rfl
      have q10 : wr.cell? ⟨b, off + k * 11 + 10, none⟩ = some (.int .i64 r.nN) := hro 10 _ rfl
      clear hro
      cases hr : rightB r with
      | false =>
        have F1 : ∀ W, Calls Try.prog 16 #[.agg #[.int .i64 r.kind, .int .i64 r.tx, .int .u16 r.mask, .int .u8 r.k0, .int .u8 r.k1, .int .u8 r.k2, .int .u8 r.k3, .bool r.oT, .int .i64 r.oN, .bool r.nT, .int .i64 r.nN]] W fun e w' => e = .returned (.tuple #[.slice none 0 0, .bool false]) ∧ Below W.heap.size W w' := fun W => enc_no r hr W
        have HN := Lib.hid (hno.out hr)
        clear hno hal
        go_wp2_with fail
        (with_reducible refine (F1 _).mono ?_)
        rintro e w1 ⟨rfl, k1⟩
        go_wp2
        go_ret2
        exact .inr ⟨HN.out, rfl, below_more (hbel.alloc hbel.size _) k1 (Nat.le_refl _)⟩
      | true =>
        have F1 : ∀ W, Calls Try.prog 16 #[.agg #[.int .i64 r.kind, .int .i64 r.tx, .int .u16 r.mask, .int .u8 r.k0, .int .u8 r.k1, .int .u8 r.k2, .int .u8 r.k3, .bool r.oT, .int .i64 r.oN, .bool r.nT, .int .i64 r.nN]] W fun e w' => ∃ A2 c2, e = .returned (.tuple #[.slice A2 (encL r).length c2, .bool true]) ∧ Good A2 c2 (encL r) w' ∧ Below W.heap.size W w' := fun W => by
          refine (enc_yes r hr okr W).mono ?_
          rintro e w' ⟨v, rfl, o, k⟩
          obtain ⟨A2, c2, rfl, g2⟩ := o.good
          exact ⟨A2, c2, rfl, g2, k⟩
        have hel := (encL_bd r).2
        have HA := Lib.hid (hal.out hr)
        clear hno hal
        obtain ⟨n, hn⟩ : ∃ n, (encL r).length = n := ⟨_, rfl⟩
        rw [hn] at F1 hel
        have HN := Lib.hid hn
        clear hn
        generalize encL r = es at *
        generalize hjj : joinL (rs.take k) = js at *
        have HJ := Lib.hid hjj
        clear hjj
        go_wp2_with fail
        (with_reducible refine (F1 _).mono ?_)
        rintro e w1 ⟨A1, c1, rfl, g1, k1⟩
        have hown1 := (hown.below ((Below.refl _ _).alloc (Nat.le_refl _) (.cells #[.int .i64 r.kind, .int .i64 r.tx, .int .u16 r.mask, .int .u8 r.k0, .int .u8 r.k1, .int .u8 r.k2, .int .u8 r.k3, .bool r.oT, .int .i64 r.oN, .bool r.nT, .int .i64 r.nN] 32))).below k1
        have hb1 : Below w.heap.size w w1 := below_more (hbel.alloc hbel.size _) k1 (Nat.le_refl _)
        clear F1
        go_wp2_with (at_builtin; refine wpList_appendB rfl _ _ rfl w.heap.size _ js rfl hown1 A1 es n c1 rfl HN.out g1 (by rw [HN.out]; omega) hb1.size w hb1 ?_; intro v' w2 hown2 hb2)
        go_roundw
        case rel => exact ⟨k + 1, by omega, by go_num, HA.out, by rw [HX.out, hjs.out]; exact hown2, hb2⟩
        case measure => simp [intOf]; omega
    · obtain rfl : k = l := by omega
      have e1 : rs.take k = rs := by rw [← HL.out, List.take_length]
      rw [e1] at hall hown
      have HA := Lib.hid (show rs.all rightB = true by rw [List.all_eq_true]; exact hall)
      clear hall e1
      go_wp2
      go_ret2
      exact .inl ⟨HA.out, _, rfl, hown, hbel⟩
end Go.Proofs.Ytlohogcddelekaa

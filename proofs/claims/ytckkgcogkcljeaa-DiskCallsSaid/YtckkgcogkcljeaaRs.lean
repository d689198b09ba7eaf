/- The document's own disk: Read outside, Image, New. -/
import Derived.Test.YtckkgcogkcljeaaRr
import Derived.Deep.RegionLaw
namespace Go.Proofs.Ytckkgcogkcljeaa
open Go.RowKit Go.Deep Go.Maps
attribute [local go_sem ↓] Go.wp_at_zero Go.wp_at_succ

theorem sv_shape {w : World} {rb : Nat} {sv cv : Value} {n : Nat} {st : St} {vs : List Value} {es : List En} (h : RefIn w rb sv cv n st vs es) : ∃ sb cap, sv = .slice (some ⟨sb, 0, none⟩) n cap ∧ sb < w.heap.size := by
  obtain ⟨sb, cap, e, _, hlt⟩ := h.srow.form (by have := h.n1; omega)
  exact ⟨sb, cap, e, hlt⟩
set_option maxHeartbeats 400000 in
theorem rread_no (G : Nat → Prop) (rb n : Nat) (i : Int) (st : St) (w : World) (h : RefAt w G rb n st) (hg : goodAt n i = false) :
    Calls Try.prog 22 #[.pointer (some ⟨rb, 0, none⟩), .int .i64 i] w (GivesR [] 11 w) := by
  obtain ⟨sv, cv, vs, es, h, _⟩ := h
  obtain ⟨sb, cap, rfl, _⟩ := sv_shape h
  have r0 := h.r0
  by_cases h0 : i < 0
  · have d1 : decide (i < 0) = true := by simpa using h0
    go_enter Try.func22, Try.ntmps22
    go_wp2
    go_ret2
    exact ⟨none, 0, rfl, Good.nil w, Below.refl _ _⟩
  · have d1 : decide (i < 0) = false := by simpa using h0
    have d2 : decide ((n : Int) ≤ i) = true := by simp [goodAt] at hg; simp; omega
    have HG := Lib.hid hg
    clear hg
    go_enter Try.func22, Try.ntmps22
    go_wp2
    go_ret2
    exact ⟨none, 0, rfl, Good.nil w, Below.refl _ _⟩
set_option maxRecDepth 100000 in
set_option maxHeartbeats 1000000 in
theorem rimage_any (G : Nat → Prop) (rb n : Nat) (st : St) (zs : List Int) (w : World) (h : RefAt w G rb n st) (hz : st.safe.flatten = zs) :
    Calls Try.prog 26 #[.pointer (some ⟨rb, 0, none⟩)] w (GivesB zs w) := by
  obtain ⟨sv, cv, vs, es, h, _⟩ := h
  obtain ⟨sb, cap, rfl, hsb⟩ := sv_shape h
  have HZ := Lib.hid hz
  have n2 := h.n2
  have n1 := h.n1
  have hlit := owns_lit w w.heap.size (Nat.le_refl _)
  have HO := Lib.hid hlit
  clear hz hlit
  go_enter Try.func26, Try.ntmps26
  go_wp2
  go_loopw [3, 4] (fun o k wr => ∃ j : Nat, j ≤ n ∧ k = .int .i64 j ∧ Owns w.heap.size wr o ((st.safe.take j).flatten) ∧ Below w.heap.size w wr) (fun _ k _ => n - (intOf k).toNat)
  case atStart => exact ⟨0, by omega, rfl, HO.out, (Below.refl _ _).alloc (Nat.le_refl _) _⟩
  case round =>
    obtain ⟨j, hj, rfl, ho, hb⟩ := hrel
    have hR := h.below hb
    have r0 := hR.r0
    have hsz := hb.size
    by_cases hlt : j < n
    · have hlt' : (j : Int) < (n : Int) := by omega
      obtain ⟨sb2, cap2, v, e2, _, hv, c0, _, hov, h32⟩ := sec_cell hR hlt
      simp only [Value.slice.injEq, Option.some.injEq, Addr.mk.injEq, and_true, true_and] at e2
      obtain ⟨rfl, rfl⟩ := e2
      obtain ⟨A8, c8, e8, g8⟩ := hov.good
      subst e8
      have hf := Lib.hid (flat_take st.safe j (by rw [h.wf.len]; exact hlt))
      have hll : ((st.safe.take j).flatten).length ≤ 9000 := by
        have := flat_len (st.safe.take j) (n := j) (by rw [List.length_take, h.wf.len]; omega) (fun z hz => h.wf.secs z (List.mem_of_mem_take hz))
        omega
      generalize secAt st.safe j = ys at *
      generalize (st.safe.take j).flatten = acc at *
      have HY := Lib.hid h32
      have G8 := Lib.hid g8
      have HO1 := Lib.hid ho
      clear h32 g8 hov hv ho
      go_wp2_with (at_builtin; refine wpList_appendB rfl _ _ rfl w.heap.size _ acc rfl HO1.out _ ys ys.length c8 rfl rfl G8.out (by rw [HY.out]; omega) hsz w hb ?_; intro v' W3 o3 bb3)
      go_roundw
      case rel => exact ⟨j + 1, by omega, by go_num, by rw [hf.out]; exact o3, bb3⟩
      case measure => simp [intOf]; omega
    · obtain rfl : j = n := by omega
      have e : st.safe.take j = st.safe := List.take_of_length_le (by rw [h.wf.len]; exact Nat.le_refl _)
      rw [e] at ho
      have HO1 := Lib.hid ho
      clear ho e
      go_wp2
      go_ret
      refine ⟨_, rfl, ?_, hb⟩
      rw [← HZ.out]
      exact HO1.out
end Go.Proofs.Ytckkgcogkcljeaa

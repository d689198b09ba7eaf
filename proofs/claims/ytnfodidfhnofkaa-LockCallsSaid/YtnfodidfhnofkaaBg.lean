/- slices.IndexFunc and ContainsFunc, of holders and of numbers, at predicates that may lay blocks. -/
import Derived.Test.YtnfodidfhnofkaaBf
namespace Go.Proofs.Ytnfodidfhnofkaa
open Go.RowKit Go.Deep Go.Maps

set_option maxRecDepth 100000 in
set_option maxHeartbeats 1000000 in
theorem idx_holders (hv : Value) (hs : List (Int × Int)) (p : Int × Int → Bool) (g : Nat) (lb : Array Value) (eg : ∀ args w, (callFunc g args).run Try.prog w = .ok (.enter g args) w) (r : Int) (w : World) (h : HoldAt w hv hs) (hp : PredB g lb (fun x => .agg (hc x).toArray) p hs w) (hr : idxF p hs = r) :
    Calls Try.prog 72 #[hv, .func (.func g) #[] lb] w fun e w' => e = .returned (.int .i64 r) ∧ Below w.heap.size w w' := by
  rcases h.out with ⟨rfl, rfl⟩ | ⟨b, cap, rfl, h1, h2, h3, h4⟩
  · go_enter Try.func72, Try.ntmps72
    go_wp2
    refine wp_loop_rounds 1 ?_
    rw [rounds_succ]
    go_wp2
    go_ret
    exact ⟨by rw [← hr]; rfl, Below.refl _ _⟩
  · have HR := Lib.hid hr
    have HP := Lib.hid hp
    clear hr hp
    have hcell := Lib.hid h4
    have hbig : hs.length ≤ 9223372036854775807 := by unfold maxLen at h2; omega
    clear h4 h h2
    obtain ⟨n, hn⟩ : ∃ n, n = hs.length := ⟨_, rfl⟩
    have HN := Lib.hid hn
    rw [← hn] at h1 hbig ⊢
    clear hn
    go_enter Try.func72, Try.ntmps72
    go_wp2
    go_loopg [5, 8] n (fun gg _ s8 wr => ∃ kk : Nat, kk ≤ n ∧ n - kk ≤ gg ∧ s8 = .int .i64 kk ∧ Hid (Below w.heap.size w wr) ∧ Hid (∀ j y, j < kk → hs[j]? = some y → p y = false))
    case atStart => exact ⟨0, Nat.zero_le _, by omega, rfl, Lib.hid (Below.refl _ w), Lib.hid (fun j y hj => absurd hj (Nat.not_lt_zero _))⟩
    case round =>
      obtain ⟨kk, hkk, hg, rfl, BW, A⟩ := hrel
      by_cases hlt : kk < n
      · have hltz : (kk : Int) < (n : Int) := by omega
        obtain ⟨y, hy⟩ : ∃ y, hs[kk]? = some y := ⟨_, List.getElem?_eq_getElem (by have := HN.out; omega)⟩
        have hcl := hcell.out kk y hy
        have c0 : wr.cell? ⟨b, kk * 2, none⟩ = some (.int .i64 y.1) := (BW.out.cell (p := ⟨b, kk * 2, none⟩) h3).trans hcl.1
        have c1 : wr.cell? ⟨b, kk * 2 + 1, none⟩ = some (.int .i64 y.2) := (BW.out.cell (p := ⟨b, kk * 2 + 1, none⟩) h3).trans hcl.2
        have hcall : Calls Try.prog g (#[.agg #[.int .i64 y.1, .int .i64 y.2]] ++ lb) wr _ := HP.out wr y (List.mem_of_getElem? hy) BW.out
        generalize y.1 = y1 at *
        generalize y.2 = y2 at *
        clear hcl
        have HY := Lib.hid hy
        clear hy
        cases hq : p y with
        | true =>
          rw [hq] at hcall
          have HQ := Lib.hid hq
          clear hq
          go_wp2_with fail
          refine hcall.mono ?_
          rintro e w' ⟨rfl, hb'⟩
          go_wp2_with fail
          go_ret
          exact ⟨by rw [← HR.out, idxF_hit HY.out HQ.out A.out]; rfl, hb'⟩
        | false =>
          rw [hq] at hcall
          have HQ := Lib.hid hq
          clear hq
          go_wp2_with fail
          refine hcall.mono ?_
          rintro e w' ⟨rfl, hb'⟩
          go_wp2_with fail
          go_roundg (n - (kk + 1))
          case measure => omega
          case rel =>
            refine ⟨kk + 1, by omega, by omega, by go_num, Lib.hid hb', Lib.hid (fun j z hj hz => ?_)⟩
            by_cases e : j = kk
            · subst e
              rw [HY.out] at hz
              cases hz
              exact HQ.out
            · exact A.out j z (by omega) hz
      · obtain rfl : kk = n := by omega
        go_wp2
        go_ret
        exact ⟨by rw [← HR.out, idxF_miss fun j y hj hy => A.out j y (by have := HN.out; omega) hy]; rfl, BW.out⟩
set_option maxRecDepth 100000 in
set_option maxHeartbeats 1000000 in
theorem idx_ints (wv : Value) (ws : List Int) (p : Int → Bool) (g : Nat) (lb : Array Value) (eg : ∀ args w, (callFunc g args).run Try.prog w = .ok (.enter g args) w) (r : Int) (w : World) (h : WaitAt w wv ws) (hp : PredB g lb (Value.int .i64) p ws w) (hr : idxF p ws = r) :
    Calls Try.prog 58 #[wv, .func (.func g) #[] lb] w fun e w' => e = .returned (.int .i64 r) ∧ Below w.heap.size w w' := by
  rcases h.out with ⟨rfl, rfl⟩ | ⟨b, off, cap, rfl, h1, h2, h3, h4⟩
  · go_enter Try.func58, Try.ntmps58
    go_wp2
    refine wp_loop_rounds 1 ?_
    rw [rounds_succ]
    go_wp2
    go_ret
    exact ⟨by rw [← hr]; rfl, Below.refl _ _⟩
  · have HR := Lib.hid hr
    have HP := Lib.hid hp
    clear hr hp
    have hcell := Lib.hid h4
    have hbig : ws.length ≤ 9223372036854775807 := by unfold maxLen at h2; omega
    clear h4 h h2
    obtain ⟨n, hn⟩ : ∃ n, n = ws.length := ⟨_, rfl⟩
    have HN := Lib.hid hn
    rw [← hn] at h1 hbig ⊢
    clear hn
    go_enter Try.func58, Try.ntmps58
    go_wp2
    go_loopg [5, 8] n (fun gg _ s8 wr => ∃ kk : Nat, kk ≤ n ∧ n - kk ≤ gg ∧ s8 = .int .i64 kk ∧ Hid (Below w.heap.size w wr) ∧ Hid (∀ j y, j < kk → ws[j]? = some y → p y = false))
    case atStart => exact ⟨0, Nat.zero_le _, by omega, rfl, Lib.hid (Below.refl _ w), Lib.hid (fun j y hj => absurd hj (Nat.not_lt_zero _))⟩
    case round =>
      obtain ⟨kk, hkk, hg, rfl, BW, A⟩ := hrel
      by_cases hlt : kk < n
      · have hltz : (kk : Int) < (n : Int) := by omega
        obtain ⟨y, hy⟩ : ∃ y, ws[kk]? = some y := ⟨_, List.getElem?_eq_getElem (by have := HN.out; omega)⟩
        have hcl := hcell.out kk y hy
        have c0 : wr.cell? ⟨b, off + kk, none⟩ = some (.int .i64 y) := (BW.out.cell (p := ⟨b, off + kk, none⟩) h3).trans hcl
        have hcall : Calls Try.prog g (#[.int .i64 y] ++ lb) wr _ := HP.out wr y (List.mem_of_getElem? hy) BW.out
        clear hcl
        have HY := Lib.hid hy
        clear hy
        cases hq : p y with
        | true =>
          rw [hq] at hcall
          have HQ := Lib.hid hq
          clear hq
          go_wp2_with fail
          refine hcall.mono ?_
          rintro e w' ⟨rfl, hb'⟩
          go_wp2_with fail
          go_ret
          exact ⟨by rw [← HR.out, idxF_hit HY.out HQ.out A.out]; rfl, hb'⟩
        | false =>
          rw [hq] at hcall
          have HQ := Lib.hid hq
          clear hq
          go_wp2_with fail
          refine hcall.mono ?_
          rintro e w' ⟨rfl, hb'⟩
          go_wp2_with fail
          go_roundg (n - (kk + 1))
          case measure => omega
          case rel =>
            refine ⟨kk + 1, by omega, by omega, by go_num, Lib.hid hb', Lib.hid (fun j z hj hz => ?_)⟩
            by_cases e : j = kk
            · subst e
              rw [HY.out] at hz
              cases hz
              exact HQ.out
            · exact A.out j z (by omega) hz
      · obtain rfl : kk = n := by omega
        go_wp2
        go_ret
        exact ⟨by rw [← HR.out, idxF_miss fun j y hj hy => A.out j y (by have := HN.out; omega) hy]; rfl, BW.out⟩
set_option maxRecDepth 100000 in
set_option maxHeartbeats 1000000 in
theorem contains_holders (hv : Value) (hs : List (Int × Int)) (p : Int × Int → Bool) (g : Nat) (lb : Array Value) (eg : ∀ args w, (callFunc g args).run Try.prog w = .ok (.enter g args) w) (r : Bool) (w : World) (h : HoldAt w hv hs) (hp : PredB g lb (fun x => .agg (hc x).toArray) p hs w) (hr : hs.any p = r) :
    Calls Try.prog 56 #[hv, .func (.func g) #[] lb] w fun e w' => e = .returned (.bool r) ∧ Below w.heap.size w w' := by
  have hd : decide (0 ≤ idxF p hs) = r := by
    rw [← hr]
    unfold idxF
    cases ha : hs.any p with
    | true =>
      obtain ⟨x, hx, hpx⟩ := List.any_eq_true.1 ha
      have := placeOf_lt hx hpx
      rw [if_pos this]; simp
    | false =>
      have h0 : ∀ y ∈ hs, p y = false := fun y hy => by simpa using (List.any_eq_false.1 ha) y hy
      rw [placeOf_miss h0, if_neg (Nat.lt_irrefl _)]; rfl
  have hcall := idx_holders hv hs p g lb eg _ w h hp rfl
  generalize idxF p hs = q at *
  clear hr hp h eg
  go_enter Try.func56, Try.ntmps56
  go_wp2_with fail
  refine hcall.mono ?_
  rintro e w' ⟨rfl, hb'⟩
  go_wp2_with fail
  go_ret
  exact ⟨by rw [← hd]; rfl, hb'⟩
end Go.Proofs.Ytnfodidfhnofkaa

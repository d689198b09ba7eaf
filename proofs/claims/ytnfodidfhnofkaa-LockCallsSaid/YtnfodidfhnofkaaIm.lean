/- The document's own: numbers. -/
import Derived.Test.YtnfodidfhnofkaaIl
namespace Go.Proofs.Ytnfodidfhnofkaa
open Go.RowKit Go.Deep Go.Maps Go.Lib

theorem filter_less {α : Type} {p q : α → Bool} : ∀ {l : List α}, (∀ x ∈ l, p x = true → q x = true) → (∃ x ∈ l, q x = true ∧ p x = false) → (l.filter p).length < (l.filter q).length
  | [], _, ⟨x, hx, _⟩ => by cases hx
  | y :: l, h, ⟨x, hx, h1, h2⟩ => by
    have hle : (l.filter p).length ≤ (l.filter q).length := by
      clear hx h1 h2
      induction l with
      | nil => simp
      | cons z l ih =>
        have h' : ∀ x ∈ y :: l, p x = true → q x = true := fun x hx => h x (by rcases List.mem_cons.1 hx with e | e; simp [e]; simp [e])
        have := ih h'
        rw [List.filter_cons, List.filter_cons]
        cases hp : p z with
        | true => rw [h z (by simp) hp]; simpa using this
        | false => cases q z <;> simp <;> omega
    rw [List.filter_cons, List.filter_cons]
    rcases List.mem_cons.1 hx with rfl | hx
    · rw [h1, h2]
      simp
      omega
    · have ih := filter_less (p := p) (q := q) (l := l) (fun x hx => h x (List.mem_cons_of_mem _ hx)) ⟨x, hx, h1, h2⟩
      cases hp : p y with
      | true => rw [h y List.mem_cons_self hp]; simpa using ih
      | false => cases q y <;> simp <;> omega
def above (last : Int) (h : RHold) : Bool := decide (last < h.tx)
/-- The least of those above last; 0, if there is none. -/
def LeastL (l : List RHold) (last least : Int) : Prop := (least = 0 ∧ ∀ x ∈ l, ¬ last < x.tx) ∨ (last < least ∧ (∃ x ∈ l, x.tx = least) ∧ ∀ x ∈ l, last < x.tx → least ≤ x.tx)
theorem LeastL.skip {l : List RHold} {last least : Int} {x : RHold} (h : LeastL l last least) (hx : last < x.tx → least ≠ 0 ∧ least ≤ x.tx) : LeastL (l ++ [x]) last least := by
  rcases h with ⟨h1, h2⟩ | ⟨h1, ⟨y, h2, h3⟩, h4⟩
  · refine .inl ⟨h1, fun z hz => ?_⟩
    rcases List.mem_append.1 hz with hz | hz
    · exact h2 z hz
    · simp only [List.mem_singleton] at hz
      subst hz
      intro e
      exact (hx e).1 h1
  · refine .inr ⟨h1, ⟨y, List.mem_append_left _ h2, h3⟩, fun z hz hl => ?_⟩
    rcases List.mem_append.1 hz with hz | hz
    · exact h4 z hz hl
    · simp only [List.mem_singleton] at hz
      subst hz
      exact (hx hl).2
theorem LeastL.take {l : List RHold} {last least : Int} {x : RHold} (h : LeastL l last least) (hx : last < x.tx) (hl : least = 0 ∨ x.tx < least) (h0 : 0 ≤ last) : LeastL (l ++ [x]) last x.tx := by
  refine .inr ⟨hx, ⟨x, by simp, rfl⟩, fun z hz hlz => ?_⟩
  rcases List.mem_append.1 hz with hz | hz
  · rcases h with ⟨h1, h2⟩ | ⟨h1, _, h4⟩
    · exact absurd hlz (h2 z hz)
    · have := h4 z hz hlz
      omega
  · simp only [List.mem_singleton] at hz
    subst hz
    exact Int.le_refl _
set_option maxRecDepth 100000 in
set_option maxHeartbeats 4000000 in
theorem refNumbers_any (A : Option Addr) (n c : Nat) (l : List RHold) (w : World) (hl : l.length = n) (hn : n ≤ 1000) (hin : ∀ w', Below w.heap.size w w' → EIn eltQ w' A l) (hpos : ∀ x ∈ l, 1 ≤ x.tx) :
    Calls Try.prog 54 #[.slice A n c] w fun e w' => ∃ v out, e = .returned v ∧ ERow eltI w.heap.size w' v out ∧ SortedN out ∧ (∀ t, t ∈ out ↔ ∃ x ∈ l, x.tx = t) ∧ Below w.heap.size w w' := by
  have HIN := Lib.hid hin
  have HL := Lib.hid hl
  have HP := Lib.hid hpos
  have HMD := Lib.hid (show ERow eltI w.heap.size (w.alloc (.cells #[] 3)) (.slice (some ⟨w.heap.size, 0, none⟩) 0 0) [] from ERow.made eltI w.heap.size w (Nat.le_refl _))
  have HB0 := Lib.hid (show Below w.heap.size w (w.alloc (.cells #[] 3)) from (Below.refl _ w).alloc (Nat.le_refl _) _)
  clear hin hl hpos
  go_enter Try.func54, Try.ntmps54
  go_wp2_with fail
  go_loopg [3, 4] n (fun gg s3 s4 wq => ∃ (last : Int) (out : List Int), (l.filter (above last)).length ≤ gg ∧ s4 = .int .i64 last ∧ 0 ≤ last ∧ out.length + (l.filter (above last)).length ≤ n ∧ Hid (ERow eltI w.heap.size wq s3 out) ∧ Hid (SortedN out) ∧ Hid (∀ t, t ∈ out ↔ (∃ x ∈ l, x.tx = t) ∧ t ≤ last) ∧ Hid (Below w.heap.size w wq))
  case atStart =>
    have hall : (l.filter (above 0)).length ≤ n := by have := List.length_filter_le (above 0) l; have := HL.out; omega
    exact ⟨0, [], hall, rfl, Int.le_refl _, by simpa using hall, HMD, Lib.hid List.Pairwise.nil, Lib.hid (fun t => ⟨fun h => (by cases h), fun ⟨⟨x, hx, e⟩, h⟩ => by have := HP.out x hx; omega⟩), HB0⟩
  case round =>
    obtain ⟨last, out, hcnt, rfl, h0, hlen, HR, HS, HM, HB⟩ := hrel
    obtain ⟨gko, rfl⟩ : ∃ gko, gko = gk := ⟨_, rfl⟩
    obtain ⟨vo, rfl⟩ : ∃ vo, vo = u3 := ⟨_, rfl⟩
    obtain ⟨wo, rfl⟩ : ∃ wo, wo = wr := ⟨_, rfl⟩
    have HCN := Lib.hid hcnt
    have HLEN := Lib.hid hlen
    clear hcnt hlen
    go_wp2_with fail
    go_loopg [5, 6] n (fun gg s5 s6 wq => ∃ (i : Nat) (least : Int), i ≤ n ∧ n - i ≤ gg ∧ s6 = .int .i64 i ∧ s5 = .int .i64 least ∧ Hid (LeastL (l.take i) last least) ∧ Hid (Below wo.heap.size wo wq))
    case atStart => exact ⟨0, 0, Nat.zero_le _, by omega, rfl, rfl, Lib.hid (.inl ⟨rfl, fun x hx => by rw [List.take_zero] at hx; cases hx⟩), Lib.hid (Below.refl _ _)⟩
    case round =>
      obtain ⟨i, least, hi, hgi, rfl, rfl, HLE, HBi⟩ := hrel
      by_cases hil : i < n
      · have hiz : (i : Int) < (n : Int) := by omega
        obtain ⟨x, hx⟩ : ∃ x, l[i]? = some x := ⟨_, List.getElem?_eq_getElem (by have := HL.out; omega)⟩
        have hxc : ∃ b off, A = some ⟨b, off, none⟩ ∧ wr.cell? ⟨b, off + i * 8, none⟩ = some (.int .i64 x.tx) := by
          rcases HIN.out wr (HB.out.trans (HBi.out.mono HB.out.size)) with e | ⟨b, off, e, hc⟩
          · rw [e] at hx; simp at hx
          · exact ⟨b, off, e, hc i x hx 0 _ rfl⟩
        obtain ⟨b, off, rfl, x0⟩ := hxc
        have hbl : b < wr.heap.size := World.block_lt_of_cell? wr _ x0
        have HTK := Lib.hid (take_snoc hx)
        clear hx
        have hrnd : ∀ (q : Int), LeastL (l.take (i + 1)) last q → Hid (LeastL (l.take (i + 1)) last q) := fun q h => Lib.hid h
        by_cases h1 : last < x.tx
        · have d1 : decide (last < x.tx) = true := decide_eq_true h1
          by_cases h2 : least = 0
          · have e2 : (least == 0) = true := by simp [h2]
            have HN := Lib.hid (show LeastL (l.take (i + 1)) last x.tx by rw [HTK.out]; exact HLE.out.take h1 (.inl h2) h0)
            clear h1 h2 hrnd
            go_wp2_with fail
            go_roundg (n - (i + 1))
            case measure => omega
            case rel => exact ⟨i + 1, x.tx, by omega, by omega, by go_num, rfl, HN, HBi⟩
          · have e2 : (least == 0) = false := by simpa using h2
            by_cases h3 : x.tx < least
            · have d3 : decide (x.tx < least) = true := decide_eq_true h3
              have HN := Lib.hid (show LeastL (l.take (i + 1)) last x.tx by rw [HTK.out]; exact HLE.out.take h1 (.inr h3) h0)
              clear h1 h2 h3 hrnd
              go_wp2_with fail
              go_roundg (n - (i + 1))
              case measure => omega
              case rel => exact ⟨i + 1, x.tx, by omega, by omega, by go_num, rfl, HN, HBi⟩
            · have d3 : decide (x.tx < least) = false := decide_eq_false h3
              have HN := Lib.hid (show LeastL (l.take (i + 1)) last least by rw [HTK.out]; exact HLE.out.skip fun _ => ⟨h2, by omega⟩)
              clear h1 h2 h3 hrnd
              go_wp2_with fail
              go_roundg (n - (i + 1))
              case measure => omega
              case rel => exact ⟨i + 1, least, by omega, by omega, by go_num, rfl, HN, HBi⟩
        · have d1 : decide (last < x.tx) = false := decide_eq_false h1
          have HN := Lib.hid (show LeastL (l.take (i + 1)) last least by rw [HTK.out]; exact HLE.out.skip fun e => absurd e h1)
          clear h1 hrnd
          go_wp2_with fail
          go_roundg (n - (i + 1))
          case measure => omega
          case rel => exact ⟨i + 1, least, by omega, by omega, by go_num, rfl, HN, HBi⟩
      · obtain rfl : i = n := by omega
        have e : l.take i = l := by rw [← HL.out]; exact List.take_length
        have hL : LeastL l last least := by have := HLE.out; rw [e] at this; exact this
        clear e
        have hszb := (HB.out.trans (HBi.out.mono HB.out.size)).size
        rcases hL with ⟨rfl, hno⟩ | ⟨hgt, ⟨x, hxl, hxt⟩, hmin⟩
        · have HM2 := Lib.hid (show ∀ t, t ∈ out ↔ ∃ x ∈ l, x.tx = t from fun t => by
            rw [HM.out t]
            exact ⟨fun h => h.1, fun ⟨x, hx, e⟩ => ⟨⟨x, hx, e⟩, by have := hno x hx; omega⟩⟩)
          clear hno
          go_wp2_with fail
          go_ret
          exact ⟨_, out, rfl, HR.out.below HBi.out, HS.out, HM2.out, HB.out.trans (HBi.out.mono HB.out.size)⟩
        · have e0 : (least == 0) = false := by
            have : ¬ least = 0 := by omega
            simpa using this
          have hlt : (l.filter (above least)).length < (l.filter (above last)).length := filter_less (fun z _ hz => by unfold above at hz ⊢; simp only [decide_eq_true_eq] at hz ⊢; omega) ⟨x, hxl, by unfold above; simp only [decide_eq_true_eq]; omega, by unfold above; simp only [decide_eq_false_iff_not]; omega⟩
          have hc1 : (l.filter (above least)).length ≤ gko - 1 := by have := HCN.out; omega
          have hc2 : (l.filter (above least)).length + 1 ≤ (l.filter (above last)).length := hlt
          have HM2 := Lib.hid (show ∀ t, t ∈ out ++ [least] ↔ (∃ x ∈ l, x.tx = t) ∧ t ≤ least from fun t => by
            rw [List.mem_append, List.mem_singleton, HM.out t]
            constructor
            · rintro (⟨h, h2⟩ | rfl)
              · exact ⟨h, by omega⟩
              · exact ⟨⟨x, hxl, hxt⟩, Int.le_refl _⟩
            · rintro ⟨⟨z, hz, rfl⟩, h2⟩
              by_cases hzl : last < z.tx
              · exact .inr (by have := hmin z hz hzl; omega)
              · exact .inl ⟨⟨z, hz, rfl⟩, by omega⟩)
          have HS2 := Lib.hid (show SortedN (out ++ [least]) by
            unfold SortedN
            rw [List.pairwise_append]
            refine ⟨HS.out, List.pairwise_singleton _ _, fun a ha b hb => ?_⟩
            simp only [List.mem_singleton] at hb
            subst hb
            have := ((HM.out a).1 ha).2
            omega)
          have HC1 := Lib.hid hc1
          have HC2 := Lib.hid hc2
          have hol : out.length + 1 ≤ 1000 := by have := HLEN.out; omega
          have hle0 : 0 ≤ least := by omega
          have hgk : gko ≠ 0 := by have := HCN.out; omega
          have HRB := Lib.hid (HR.out.below HBi.out)
          have HBB := Lib.hid (HB.out.trans (HBi.out.mono HB.out.size))
          clear hlt hc1 hc2 hmin hxl hxt
          go_wp2_with (first
            | (at_builtin; refine wpList_appendE eltI _ rfl _ _ rfl w.heap.size _ out rfl (HRB.out.below ((Below.refl _ wr).alloc (Nat.le_refl _) _)) (some ⟨wr.heap.size, 0, none⟩) [least] 1 1 rfl rfl (EIn.new eltI wr least _) (fun e => by cases e) (by omega) (by simp; omega) ?_; intro v' w' hown hgrow hat)
            | fail)
          go_roundg (gko - 1)
          case measure => omega
          case rel => exact ⟨least, out ++ [least], HC1.out, rfl, hle0, by rw [List.length_append]; have := HLEN.out; have := HC2.out; simp; omega, Lib.hid hown, HS2, HM2, Lib.hid ((HBB.out.alloc hszb _).grown hgrow (by simp; omega) (fun k e => (HRB.out.lt k e).1))⟩
end Go.Proofs.Ytnfodidfhnofkaa

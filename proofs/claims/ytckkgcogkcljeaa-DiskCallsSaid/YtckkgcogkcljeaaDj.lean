/- alive: a disk that loses a write, and tears another one. -/
import Derived.Test.YtckkgcogkcljeaaDi
import Derived.Lib.AppendZerosOnto
namespace Go.Proofs.Ytckkgcogkcljeaa
open Go.RowKit Go.Deep Go.Maps

theorem wpList_append_runW {P : Program} {W : World} {ops : Array Oper} {rest : List Oper} {o : Oper} {a : Act} {Q : Exit → Act → World → Prop} (hw : Region.wanted o (yielded ops a.tmps) = true) (s x : Operand) (t tn : TypeId)
    (ho : o.op = .call { callee := .builtin .append, args := #[s, x], argTypes := #[t, tn] }) (vs vx : Value) (hs : a.eval s = vs) (hx : a.eval x = vx)
    (v' : Value) (w' : World) (hr : (Builtin.append_ #[t, tn] o.type #[vs, vx]).run P W = .ok v' w') (h : wpList P ops Q rest (a.put o.dst v') w') : wpList P ops Q (o :: rest) a W :=
  BigFrame.wpList_want hw fun _ hK => Lib.wp_append_run W s x t tn ho vs vx hs hx v' w' hr (hK _ _ h)
def torn2 : List Int := [2, 2, 2] ++ List.replicate 29 0
theorem zero_cells_u8 (n : Nat) : (Builtin.zeroCells #[Value.int .u8 0] n).toList = List.replicate n (.int .u8 0) := by
  apply List.ext_getElem?
  intro j
  by_cases hj : j < n <;> simp [Builtin.zeroCells, Nat.mod_one, hj]
theorem app_zeros (W : World) (b : Nat) (ty : TypeId) (hb : W.heap[b]? = some (.cells #[.int .u8 2, .int .u8 2, .int .u8 2] 5)) :
    ∃ cap W', (Builtin.append_ #[32, 3] ty #[.slice (some ⟨b, 0, none⟩) 3 3, .int .i64 29]).run Try.prog W = .ok (.slice (some ⟨W.heap.size, 0, none⟩) 32 cap) W' ∧ Good (some ⟨W.heap.size, 0, none⟩) cap torn2 W' ∧ Below W.heap.size W W' := by
  obtain ⟨i0, hi, hz0, hz1, hz2⟩ := info_parts info_u8
  have hold : (Builtin.firstCells i0.size 3 (.slice (some ⟨b, 0, none⟩) 3 3)).run Try.prog W.drew = .ok [Value.int .u8 2, .int .u8 2, .int .u8 2].toArray W.drew := by
    rw [hz1]
    have := run_loadCells_list (P := Try.prog) W.drew ⟨b, 0, none⟩ [Value.int .u8 2, .int .u8 2, .int .u8 2] (fun j v hv => by
      rw [Go.WideShapes.add_plain, Nat.zero_add]
      have := cell_of_row W b j _ _ _ hb
      exact this.trans (by simpa using hv))
    simpa [Builtin.firstCells] using this
  have h := Lib.run_append_grow_zeros (P := Try.prog) W 32 3 ty 5 i0 _ .i64 .i64 Try.underlying32 Try.underlying3 hi hz0 (some ⟨b, 0, none⟩) 3 3 _ hold 29 (by omega) (by omega) (by omega) (by omega) (by omega) (by rw [hz2]; decide)
  refine ⟨_, _, h, ?_, (below_drewN (Below.refl _ _) 1).alloc (Nat.le_refl _) _⟩
  have hl : torn2.length = 32 := rfl
  refine ⟨fun _ => ⟨W.heap.size, 0, rfl, by simp, fun j hj => ?_⟩, ?_, fun e => by cases e⟩
  · have hblk := heap_alloc_new W.drew (Obj.cells ([Value.int .u8 2, .int .u8 2, .int .u8 2].toArray ++ Builtin.zeroCells (Value.int .u8 0).cells 29 ++ Builtin.zeroCells (Value.int .u8 0).cells (grownCap W (3 + 29) 3 5 - (3 + 29))) 5)
    rw [cell_of_row _ W.heap.size _ _ _ _ hblk, Nat.zero_add]
    rw [← Array.getElem?_toList, Array.toList_append, Array.toList_append]
    have e : (Builtin.zeroCells (Value.int .u8 0).cells 29).toList = List.replicate 29 (.int .u8 0) := zero_cells_u8 29
    rw [e, List.getElem?_append_left (by simp; omega)]
    have e2 : ([Value.int IntKind.u8 2, Value.int IntKind.u8 2, Value.int IntKind.u8 2].toArray.toList ++ List.replicate 29 (Value.int IntKind.u8 0)) = torn2.map (Value.int .u8) := rfl
    rw [e2]
    simp [hj]
  · rw [hl]
    exact grownCap_ge _ _ _ _

/-- A disk all of whose blocks are B or later; what is below B is as it was in w0. -/
def Has (B : Nat) (w0 w : World) (db n : Nat) (st : St) : Prop := ∃ F, DiskAt w F db n st ∧ (∀ k, F k → B ≤ k) ∧ Below B w0 w ∧ B ≤ w.heap.size
theorem Has.below {B : Nat} {w0 w w' : World} {db n : Nat} {st : St} (h : Has B w0 w db n st) (hb : Below w.heap.size w w') : Has B w0 w' db n st := by
  obtain ⟨F, h1, h2, h3, h4⟩ := h
  exact ⟨F, h1.below hb, h2, h3.trans (hb.mono h4), Nat.le_trans h4 hb.size⟩
theorem Has.frame {B : Nat} {w0 w : World} {db n : Nat} {st : St} (h : Has B w0 w db n st) : Below B w0 w := by obtain ⟨F, h1, h2, h3, h4⟩ := h; exact h3
theorem Has.does {B : Nat} {F : Nat → Prop} {w0 w w' : World} {db n : Nat} {st : St} {v : Value} {e : Ending} (hF : ∀ k, F k → B ≤ k) (h3 : Below B w0 w) (h4 : B ≤ w.heap.size) (hd : Does F db n st v w e w') : e = .returned v ∧ Has B w0 w' db n st := by
  obtain ⟨d1, d2, d3⟩ := hd
  refine ⟨d1, _, d2, ?_, h3.trans (d3.below h4 hF), Nat.le_trans h4 d3.size⟩
  rintro k (hk | hk)
  · exact hF k hk
  · omega
theorem write_has (B : Nat) (w0 : World) (db n : Nat) (i : Int) (st st' : St) (A : Option Addr) (l c : Nat) (zs : List Int) (q : Int) (w : World) (h : Has B w0 w db n st) (hl : zs.length = l) (hg : Good A c zs w) (hc : st.cache.length ≤ 999) (hq : writeE n i l = q) (hst : writeT n st i zs = st') :
    Calls Try.prog 14 #[.pointer (some ⟨db, 0, none⟩), .int .i64 i, .slice A l c] w fun e w' => e = .returned (.int .i64 q) ∧ Has B w0 w' db n st' := by
  obtain ⟨F, h1, h2, h3, h4⟩ := h
  exact (write_any F db n i st st' A l c zs q w h1 hl hg hc hq hst).mono fun e w' hd => Has.does h2 h3 h4 hd
theorem crash_has (B : Nat) (w0 : World) (db n : Nat) (st st' : St) (keep tear : Int) (w : World) (h : Has B w0 w db n st) (hc : st.cache.length ≤ 1000) (hst : crashS st keep tear = st') :
    Calls Try.prog 19 #[.pointer (some ⟨db, 0, none⟩), .int .i64 keep, .int .i64 tear] w fun e w' => e = .returned (.tuple #[]) ∧ Has B w0 w' db n st' := by
  obtain ⟨F, h1, h2, h3, h4⟩ := h
  subst hst
  exact (crash_any F db n st keep tear w h1 hc).mono fun e w' hd => Has.does h2 h3 h4 hd
theorem flush_has (B : Nat) (w0 : World) (db n : Nat) (st st' : St) (w : World) (h : Has B w0 w db n st) (hc : st.cache.length ≤ 1000) (hst : flushS st = st') :
    Calls Try.prog 17 #[.pointer (some ⟨db, 0, none⟩)] w fun e w' => e = .returned (.tuple #[]) ∧ Has B w0 w' db n st' := by
  obtain ⟨F, h1, h2, h3, h4⟩ := h
  subst hst
  exact (flush_any F db n st w h1 hc).mono fun e w' hd => Has.does h2 h3 h4 hd
theorem read_has (B : Nat) (w0 : World) (db n i : Nat) (st : St) (zs : List Int) (w : World) (h : Has B w0 w db n st) (hi : i < n) (hz : nowAt st i = zs) :
    Calls Try.prog 21 #[.pointer (some ⟨db, 0, none⟩), .int .i64 i] w fun e w' => ∃ A c, e = .returned (.tuple #[.slice A 32 c, .int .i64 0]) ∧ Good A c zs w' ∧ Has B w0 w' db n st ∧ Below w.heap.size w w' := by
  have h0 := h
  obtain ⟨F, h1, h2, h3, h4⟩ := h
  refine (read_at F db n i st zs w h1 hi hz).mono fun e w' hd => ?_
  obtain ⟨b, he, hr, hb1, hb2, hb⟩ := hd
  exact ⟨_, 32, he, good_of_range hr hb2 32 (by rw [← hz]; exact Nat.le_of_eq (h1.wf.now_len hi)), h0.below hb, hb⟩
def r1 : List Int := List.replicate 32 1
def r2 : List Int := List.replicate 32 2
def r3 : List Int := List.replicate 32 3
def a1 : St := ⟨(newS 3).safe, [(0, r1)]⟩
def a2 : St := ⟨(newS 3).safe, [(0, r1), (2, r2)]⟩
def a3 : St := ⟨(newS 3).safe, [(0, r1), (2, r2), (1, r3)]⟩
def a4 : St := crashS a3 1 3
theorem a4_0 : nowAt a4 0 = r1 := by decide +kernel
theorem a4_2 : nowAt a4 2 = torn2 := by decide +kernel
theorem a4_1 : nowAt a4 1 = zeros32 := by decide +kernel
theorem a4_im : a4.safe.flatten.length = 96 := by decide +kernel
set_option maxRecDepth 100000 in
set_option maxHeartbeats 2000000 in
theorem alive_any (w : World) : Calls Try.prog 9 #[] w fun e w' => e = .returned (.bool true) ∧ Below w.heap.size w w' := by
  go_enter Try.func9, Try.ntmps9
  go_wp2_with fail
  refine (new_ok 3 w (by omega) (by omega)).mono ?_
  rintro e w1 ⟨db, rfl, hd1, hb1⟩
  have H1 : Hid (Has w.heap.size w w1 db 3 (newS 3)) := Lib.hid ⟨_, hd1, fun k hk => hk.1, hb1, hb1.size⟩
  clear hd1 hb1
  go_wp2_with fail
  refine (full_any 1 r1 w1 rfl).mono ?_
  rintro e w2 ⟨v2, rfl, o2, b2⟩
  obtain ⟨A2, c2, rfl, g2⟩ := o2.good
  have H2 := Lib.hid (H1.out.below b2)
  have G2 := Lib.hid g2
  clear H1 o2 b2 g2
  rw [show r1.length = 32 from rfl]
  go_wp2_with fail
  refine (write_has _ w db 3 0 _ a1 A2 32 c2 r1 0 w2 H2.out rfl G2.out (by decide) rfl rfl).mono ?_
  rintro e w3 ⟨rfl, h3⟩
  have H3 := Lib.hid h3
  clear h3 H2 G2
  go_wp2_with fail
  refine (full_any 2 r2 w3 rfl).mono ?_
  rintro e w4 ⟨v4, rfl, o4, b4⟩
  obtain ⟨A4, c4, rfl, g4⟩ := o4.good
  have H4 := Lib.hid (H3.out.below b4)
  have G4 := Lib.hid g4
  clear H3 o4 b4 g4
  rw [show r2.length = 32 from rfl]
  go_wp2_with fail
  refine (write_has _ w db 3 2 _ a2 A4 32 c4 r2 0 w4 H4.out rfl G4.out (by decide) rfl rfl).mono ?_
  rintro e w5 ⟨rfl, h5⟩
  have H5 := Lib.hid h5
  clear h5 H4 G4
  go_wp2_with fail
  refine (full_any 3 r3 w5 rfl).mono ?_
  rintro e w6 ⟨v6, rfl, o6, b6⟩
  obtain ⟨A6, c6, rfl, g6⟩ := o6.good
  have H6 := Lib.hid (H5.out.below b6)
  have G6 := Lib.hid g6
  clear H5 o6 b6 g6
  rw [show r3.length = 32 from rfl]
  go_wp2_with fail
  refine (write_has _ w db 3 1 _ a3 A6 32 c6 r3 0 w6 H6.out rfl G6.out (by decide) rfl rfl).mono ?_
  rintro e w7 ⟨rfl, h7⟩
  have H7 := Lib.hid h7
  clear h7 H6 G6
  go_wp2_with fail
  obtain ⟨F7, h7, _⟩ := H7.out
  refine (loose_at F7 db 3 3 a3 w7 h7 rfl).mono ?_
  rintro e w8 ⟨rfl, rfl⟩
  clear h7
  go_wp2_with fail
  refine (crash_has _ w db 3 _ a4 1 3 w7 H7.out (by decide) rfl).mono ?_
  rintro e w8 ⟨rfl, h8⟩
  have H8 := Lib.hid h8
  clear h8 H7
  go_wp2_with fail
  refine (read_has _ w db 3 0 a4 r1 w8 H8.out (by omega) a4_0).mono ?_
  rintro e w9 ⟨A9, c9, rfl, g9, h9, b9⟩
  have H9 := Lib.hid h9
  have G9 := Lib.hid g9
  clear H8 g9 h9 b9
  go_wp2_with fail
  refine (read_has _ w db 3 2 a4 torn2 w9 H9.out (by omega) a4_2).mono ?_
  rintro e w10 ⟨A10, c10, rfl, g10, h10, b10⟩
  have H10 := Lib.hid h10
  have G10 := Lib.hid g10
  have K9 := Lib.hid (G9.out.below b10)
  clear H9 G9 g10 h10 b10
  go_wp2_with fail
  refine (read_has _ w db 3 1 a4 zeros32 w10 H10.out (by omega) a4_1).mono ?_
  rintro e w11 ⟨A11, c11, rfl, g11, h11, b11⟩
  have H11 := Lib.hid h11
  have G11 := Lib.hid g11
  have L9 := Lib.hid (K9.out.below b11)
  have L10 := Lib.hid (G10.out.below b11)
  clear H10 G10 K9 g11 h11 b11
  go_wp2_with fail
  obtain ⟨F11, h11, _⟩ := H11.out
  refine (read_out F11 db 3 3 a4 w11 h11 rfl).mono ?_
  rintro e w12 ⟨rfl, rfl⟩
  go_wp2_with fail
  refine (loose_at F11 db 3 0 a4 w11 h11 rfl).mono ?_
  rintro e w12 ⟨rfl, rfl⟩
  go_wp2_with fail
  refine (sectors_at F11 db 3 a4 w11 h11).mono ?_
  rintro e w12 ⟨rfl, rfl⟩
  clear h11
  go_wp2_with fail
  refine (full_any 1 r1 w11 rfl).mono ?_
  rintro e w12 ⟨v12, rfl, o12, b12⟩
  obtain ⟨A12, c12, rfl, g12⟩ := o12.good
  have H12 := Lib.hid (H11.out.below b12)
  have M9 := Lib.hid (L9.out.below b12)
  have M10 := Lib.hid (L10.out.below b12)
  have M11 := Lib.hid (G11.out.below b12)
  have G12 := Lib.hid g12
  clear H11 L9 L10 G11 o12 b12 g12
  rw [show r1.length = 32 from rfl]
  go_wp2_with fail
  refine (sameB A9 A12 r1 r1 c9 c12 32 32 true rfl rfl (by omega) (by omega) (by decide) w12 M9.out G12.out).mono ?_
  rintro e w13 ⟨rfl, b13⟩
  have H13 := Lib.hid (H12.out.below b13)
  have N10 := Lib.hid (M10.out.below b13)
  have N11 := Lib.hid (M11.out.below b13)
  clear H12 M9 M10 M11 G12 b13
  obtain ⟨cap, W14, hrun, g14, b14⟩ := app_zeros (w13.alloc (.cells #[.int .u8 2, .int .u8 2, .int .u8 2] 5)) w13.heap.size 32 (heap_alloc_new _ _)
  generalize (w13.alloc (.cells #[.int .u8 2, .int .u8 2, .int .u8 2] 5)).heap.size = nb at hrun g14
  have b13' : Below w13.heap.size w13 W14 := ((Below.refl _ _).alloc (Nat.le_refl _) _).trans (b14.mono (by simp))
  have HR := Lib.hid hrun
  have H14 := Lib.hid (H13.out.below b13')
  have P10 := Lib.hid (N10.out.below b13')
  have P11 := Lib.hid (N11.out.below b13')
  have G14 := Lib.hid g14
  clear hrun b14 b13' g14 H13 N10 N11
  go_wp2_with (at_builtin; refine wpList_append_runW (by rfl) _ _ _ _ rfl _ _ rfl rfl _ _ HR.out ?_)
  refine (sameB A10 _ torn2 torn2 c10 cap 32 32 true rfl rfl (by omega) (by omega) (by decide) W14 P10.out G14.out).mono ?_
  rintro e w15 ⟨rfl, b15⟩
  have H15 := Lib.hid (H14.out.below b15)
  have Q11 := Lib.hid (P11.out.below b15)
  clear H14 P10 P11 G14 b15 HR
  go_wp2_with fail
  refine (full_any 0 zeros32 w15 rfl).mono ?_
  rintro e w16 ⟨v16, rfl, o16, b16⟩
  obtain ⟨A16, c16, rfl, g16⟩ := o16.good
  have H16 := Lib.hid (H15.out.below b16)
  have R11 := Lib.hid (Q11.out.below b16)
  have G16 := Lib.hid g16
  clear H15 Q11 o16 b16 g16
  rw [show zeros32.length = 32 from rfl]
  go_wp2_with fail
  refine (sameB A11 A16 zeros32 zeros32 c11 c16 32 32 true rfl rfl (by omega) (by omega) (by decide) w16 R11.out G16.out).mono ?_
  rintro e w17 ⟨rfl, b17⟩
  have H17 := Lib.hid (H16.out.below b17)
  clear H16 R11 G16 b17
  go_wp2_with fail
  obtain ⟨F17, h17, _⟩ := H17.out
  refine (image_at F17 db 3 a4 _ w17 h17 (by omega) rfl).mono ?_
  rintro e w18 ⟨v18, rfl, o18, b18⟩
  obtain ⟨A18, c18, rfl, g18⟩ := o18.good
  have H18 := Lib.hid (H17.out.below b18)
  clear h17 o18 g18 b18 H17
  rw [a4_im]
  go_wp2
  go_ret
  exact ⟨rfl, H18.out.frame⟩
end Go.Proofs.Ytckkgcogkcljeaa

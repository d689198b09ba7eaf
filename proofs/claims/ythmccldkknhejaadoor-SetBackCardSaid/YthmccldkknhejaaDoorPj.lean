/- strings.SplitSeq at a comma: what its iterator hands over. -/
import Derived.Test.YthmccldkknhejaaDoorPi
import Derived.Test.YthmccldkknhejaaDoorRng
namespace Go.Proofs.YthmccldkknhejaaDoor
open Go.RowKit Go.Shelf

attribute [local go_sem] Oper.semAt_some
set_option linter.unusedVariables false

/-- A text of at most 1000 bytes. -/
abbrev Txt := { b : List UInt8 // b.length ≤ 1000 }
/-- The three variables of the iterator lie as they lay. -/
structure KS (b0 b1 b2 : Nat) (A B : World) : Prop where
  s : B.heap[b0]? = A.heap[b0]?
  sep : B.heap[b1]? = A.heap[b1]?
  save : B.heap[b2]? = A.heap[b2]?
theorem KS.refl (b0 b1 b2 : Nat) (A : World) : KS b0 b1 b2 A A := ⟨rfl, rfl, rfl⟩
theorem KS.trans {b0 b1 b2 : Nat} {A B C : World} (h : KS b0 b1 b2 A B) (k : KS b0 b1 b2 B C) : KS b0 b1 b2 A C := ⟨k.s.trans h.s, k.sep.trans h.sep, k.save.trans h.save⟩
theorem KS.put {b0 b1 b2 m : Nat} (h0 : b0 < m) (h1 : b1 < m) (h2 : b2 < m) (W : World) (l : Nat) (o' : Obj) (hl : m ≤ l) : KS b0 b1 b2 W (W.putObj l o') :=
  ⟨World.putObj_heap_other (by omega), World.putObj_heap_other (by omega), World.putObj_heap_other (by omega)⟩
theorem index_comma : ∀ (l : List UInt8), ((44 : UInt8) ∉ l ∧ Lib.indexByte l 44 = -1) ∨ ∃ p r, l = p ++ 44 :: r ∧ (44 : UInt8) ∉ p ∧ Lib.indexByte l 44 = p.length
  | [] => .inl ⟨by simp, rfl⟩
  | c :: cs => by
    by_cases hc : c = 44
    · subst hc
      exact .inr ⟨[], cs, rfl, by simp, by simp [Lib.indexByte]⟩
    · have hc' : ¬ (44 : UInt8) = c := fun e => hc e.symm
      rcases index_comma cs with ⟨h1, h2⟩ | ⟨p, r, h1, h2, h3⟩
      · exact .inl ⟨by simp [hc', h1], by simp [Lib.indexByte, h2, hc]⟩
      · refine .inr ⟨c :: p, r, by rw [h1]; rfl, by simp [hc', h2], ?_⟩
        have h4 : ¬ ((p.length : Int) = -1) := by omega
        simp [Lib.indexByte, h3, hc, h4]
theorem extract_front (p r : List UInt8) (c : UInt8) : (strB (p ++ c :: r)).extract 0 p.length = strB p := by
  unfold strB; rw [ByteArray.extract_mk]; simp
theorem extract_back (p r : List UInt8) (c : UInt8) (n : Nat) (hn : n = p.length + 1) : (strB (p ++ c :: r)).extract n (strB (p ++ c :: r)).size = strB r := by
  subst hn
  rw [strB_size]
  unfold strB; rw [ByteArray.extract_mk]; simp
  exact List.take_of_length_le (by omega)
def restLen (b0 : Nat) (w : World) : Nat := match w.cell? ⟨b0, 0, none⟩ with
  | some (.string s) => s.size
  | _ => 0
theorem restLen_of {b0 : Nat} {w : World} {l : List UInt8} (h : Boxed w b0 9 (.string (strB l))) : restLen b0 w = l.length := by
  unfold restLen; rw [h.cell]; rfl

set_option maxRecDepth 100000 in
set_option maxHeartbeats 2000000 in
theorem split1_in (n : Nat) (hn : 1 ≤ n) (l b0 : Nat) (t : List UInt8) (ht : t.length ≤ 1000) (J : List Txt → World → Prop) (hJ : BidesT b0 J)
    (hY : ∀ pre x W, J pre W → YieldAt Fence.wide (n - 1) Tryd.prog l #[.string (strB x.1)] W fun e W' => e = .returned (.bool true) ∧ J (pre ++ [x]) W' ∧ KS b0 (b0 + 1) (b0 + 2) W W')
    (W : World) (h1 : Boxed W b0 9 (.string (strB t))) (h2 : Boxed W (b0 + 1) 9 (.string ⟨#[44]⟩)) (h3 : Boxed W (b0 + 2) 3 (.int .i64 0)) (h0 : J [] W) :
    CallsIn Fence.wide n Tryd.prog 56 #[.func (.yield l) #[] #[], .pointer (some ⟨b0 + 1, 0, none⟩), .pointer (some ⟨b0, 0, none⟩), .pointer (some ⟨b0 + 2, 0, none⟩)] W fun e W' => (∃ v, e = .returned v) ∧
      ∃ ys, ys.map (·.1) = splitC t ∧ J ys W' := by
  have hro : Fence.wide.round = none := rfl
  have f2 := h2.cell
  refine callsIn_of_wp Tryd.func56 rfl trivial ?_ hro
  simp only [Tryd.ntmps56, List.size_toArray, List.length_cons, List.length_nil, Nat.reduceAdd, Nat.reduceSub, Array.replicate_succ, Array.replicate_zero, List.push_toArray, List.append_toArray, List.nil_append, List.cons_append]
  have hF1 : Fence.wide.fn 58 := trivial
  gi_wp2_with fail
  gi_loopw [7] (fun v wr => ∃ (rest : List UInt8) (pre : List Txt), rest.length ≤ 1000 ∧ splitC t = pre.map (·.1) ++ splitC rest ∧ J pre wr ∧ Boxed wr b0 9 (.string (strB rest)) ∧ Boxed wr (b0 + 1) 9 (.string ⟨#[44]⟩) ∧ Boxed wr (b0 + 2) 3 (.int .i64 0)) (fun _ wr => restLen b0 wr)
  case atStart => exact ⟨t, [], ht, rfl, h0, h1, h2, h3⟩
  case round =>
    obtain ⟨rest, pre, hrl, hsp, hJs, g1, g2, g3⟩ := hrel
    have e1 := g1.cell
    have e2 := g2.cell
    have e3 := g3.cell
    have cI := Tryd.strings_Index_one (strB rest) 44
    rw [strB_list] at cI
    rcases index_comma rest with ⟨hno, hi⟩ | ⟨p, r, rfl, hp, hi⟩
    · rw [hi] at cI
      have hy0 := hY pre ⟨rest, hrl⟩ wr hJs
      obtain ⟨fn, tmps, assign, body, hy, hR⟩ := hy0
      have hall : splitC t = (pre ++ [(⟨rest, hrl⟩ : Txt)]).map (·.1) := by rw [hsp, splitC_one rest hno, List.map_append]; rfl
      have HA := Lib.hid hall
      clear hall hsp hno hi
      dsimp only at hy
      gi_wp2_with fail
      refine (callsIn_wide.2 (cI _)).mono ?_
      rintro e w' ⟨rfl, rfl⟩
      gi_wp2_with fail
      refine hR.mono ?_
      rintro e W3 ⟨rfl, hJ3, hk3⟩
      gi_wp2_with fail
      go_end0
      exact ⟨⟨_, rfl⟩, _, HA.out.symm, hJ3⟩
    · rw [hi] at cI
      have hpl : p.length ≤ 1000 := by rw [List.length_append] at hrl; omega
      have hrl2 : r.length ≤ 1000 := by rw [List.length_append, List.length_cons] at hrl; omega
      obtain ⟨fn, tmps, assign, body, hy, hR⟩ := hY pre ⟨p, hpl⟩ wr hJs
      have hall : splitC t = (pre ++ [(⟨p, hpl⟩ : Txt)]).map (·.1) ++ splitC r := by rw [hsp, splitC_cons p r hp, List.map_append]; simp
      have HA := Lib.hid hall
      have HM := Lib.hid (restLen_of g1)
      have x1 := extract_front p r 44
      have x2 := fun n hn => extract_back p r 44 n hn
      have hsz : (strB (p ++ 44 :: r)).size = p.length + 1 + r.length := by rw [strB_size, List.length_append, List.length_cons]; omega
      clear hall hsp hp hi
      dsimp only at hy
      generalize strB (p ++ 44 :: r) = rs at *
      obtain ⟨i, hi⟩ : ∃ i, p.length = i := ⟨_, rfl⟩
      rw [hi] at cI x1 hsz
      have x3 := x2 (i + 1) (by rw [hi])
      rw [hsz] at x3
      have hil : i ≤ 1000 := by rw [← hi]; exact hpl
      have hilt : ¬ ((i : Int) < 0) := by omega
      clear x2 hi
      gi_wp2_with fail
      refine (callsIn_wide.2 (cI _)).mono ?_
      rintro e w' ⟨rfl, rfl⟩
      gi_wp2_with fail
      refine hR.mono ?_
      rintro e W3 ⟨rfl, hJ3, hk3⟩
      have k1 : Boxed W3 b0 9 (.string rs) := hk3.s.trans g1
      have k2 : Boxed W3 (b0 + 1) 9 (.string ⟨#[44]⟩) := hk3.sep.trans g2
      have k3 : Boxed W3 (b0 + 2) 3 (.int .i64 0) := hk3.save.trans g3
      have q1 := k1.cell
      have q2 := k2.cell
      have q4 := k1.frozen
      gi_wp2_with fail
      have m1 : restLen b0 (W3.setCell ⟨b0, 0, none⟩ (.string (strB r))) = r.length := restLen_of (k1.set _)
      have HM1 := Lib.hid m1
      clear m1
      go_roundw
      case rel => exact ⟨r, _, hrl2, HA.out, hJ _ W3 _ (some b0) hJ3 (grownBy_setCell' W3 b0 _) (fun r e => by cases e; rfl), k1.set _, k2.other (by omega) _, k3.other (by omega) _⟩
      case measure => rw [HM1.out, HM.out, List.length_append, List.length_cons]; omega

set_option maxRecDepth 100000 in
set_option maxHeartbeats 1000000 in
theorem splitSeq_in (n : Nat) (t : ByteArray) (w : World) :
    CallsIn Fence.wide n Tryd.prog 45 #[.string t, .string ⟨#[44]⟩, .int .i64 0] w fun e w' => e = .returned (.func (.func 56) #[] #[.pointer (some ⟨w.heap.size + 1, 0, none⟩), .pointer (some ⟨w.heap.size, 0, none⟩), .pointer (some ⟨w.heap.size + 2, 0, none⟩)]) ∧
      w' = ((w.alloc (.cells #[.string t] 9)).alloc (.cells #[.string ⟨#[44]⟩] 9)).alloc (.cells #[.int .i64 0] 3) := by
  refine callsIn_of_wp Tryd.func45 rfl trivial ?_ rfl
  simp only [Tryd.ntmps45, List.size_toArray, List.length_cons, List.length_nil, Nat.reduceAdd, Nat.reduceSub, Array.replicate_succ, Array.replicate_zero, List.push_toArray, List.append_toArray, List.nil_append, List.cons_append]
  gi_wp2
  go_ret
  exact ⟨rfl, rfl⟩
set_option maxRecDepth 100000 in
set_option maxHeartbeats 1000000 in
theorem SplitSeq_in (n : Nat) (hn : 1 ≤ n) (t : ByteArray) (w : World) :
    CallsIn Fence.wide n Tryd.prog 35 #[.string t, .string ⟨#[44]⟩] w fun e w' => e = .returned (.func (.func 56) #[] #[.pointer (some ⟨w.heap.size + 1, 0, none⟩), .pointer (some ⟨w.heap.size, 0, none⟩), .pointer (some ⟨w.heap.size + 2, 0, none⟩)]) ∧
      w' = ((w.alloc (.cells #[.string t] 9)).alloc (.cells #[.string ⟨#[44]⟩] 9)).alloc (.cells #[.int .i64 0] 3) := by
  refine callsIn_of_wp Tryd.func35 rfl trivial ?_ rfl
  simp only [Tryd.ntmps35, List.size_toArray, List.length_cons, List.length_nil, Nat.reduceAdd, Nat.reduceSub, Array.replicate_succ, Array.replicate_zero, List.push_toArray, List.append_toArray, List.nil_append, List.cons_append]
  gi_wp2_with fail
  refine ⟨trivial, (splitSeq_in (n - 1) t _).mono ?_⟩
  rintro e w' ⟨rfl, rfl⟩
  gi_wp2_with fail
  go_ret
  exact ⟨rfl, rfl⟩
theorem split_on (n : Nat) (hn : 1 ≤ n) (b0 : Nat) (t : List UInt8) (ht : t.length ≤ 1000) (w : World) (hb : b0 + 2 < w.heap.size) (h1 : Boxed w b0 9 (.string (strB t))) (h2 : Boxed w (b0 + 1) 9 (.string ⟨#[44]⟩)) (h3 : Boxed w (b0 + 2) 3 (.int .i64 0)) :
    SeqOn Fence.wide n Tryd.prog 56 #[.pointer (some ⟨b0 + 1, 0, none⟩), .pointer (some ⟨b0, 0, none⟩), .pointer (some ⟨b0 + 2, 0, none⟩)] (fun x : Txt => #[Value.string (strB x.1)]) (KS b0 (b0 + 1) (b0 + 2)) (fun ys => ys.map (·.1) = splitC t) b0 w := fun l J W hW hJ hY h0 =>
  split1_in n hn l b0 t ht J hJ hY W ((hW.block b0 (by omega)).trans h1) ((hW.block _ (by omega)).trans h2) ((hW.block _ (by omega)).trans h3) h0
end Go.Proofs.YthmccldkknhejaaDoor

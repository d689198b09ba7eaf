/- A key ahead of another one; an append that must make new memory. -/
import Derived.Test.YtnfodidfhnofkaaIf
namespace Go.Proofs.Ytnfodidfhnofkaa
open Go.RowKit Go.Deep Go.Maps Go.Lib

def byteK (k : KeyT) (i : Nat) : Int := match i with | 0 => k.a.val | 1 => k.b.val | 2 => k.c.val | _ => k.d.val
theorem byte_kv (k : KeyT) {i : Nat} (hi : i < 4) : (kv k)[i]? = some (.int .u8 (byteK k i)) := by
  match i, hi with
  | 0, _ => rfl
  | 1, _ => rfl
  | 2, _ => rfl
  | 3, _ => rfl
theorem byteK_lt (k : KeyT) (i : Nat) : 0 ≤ byteK k i ∧ byteK k i < 256 := by
  have h0 := k.a.isLt; have h1 := k.b.isLt; have h2 := k.c.isLt; have h3 := k.d.isLt
  unfold byteK
  split <;> omega
theorem num_byte (k : KeyT) : (k.num : Int) = 16777216 * byteK k 0 + 65536 * byteK k 1 + 256 * byteK k 2 + byteK k 3 := by
  simp only [KeyT.num, byteK]
  omega
theorem num_first {a b : KeyT} {i : Nat} (hi : i < 4) (he : ∀ j, j < i → byteK a j = byteK b j) (hne : byteK a i ≠ byteK b i) : a.num < b.num ↔ byteK a i < byteK b i := by
  have ha := num_byte a
  have hb := num_byte b
  have a0 := byteK_lt a 0; have a1 := byteK_lt a 1; have a2 := byteK_lt a 2; have a3 := byteK_lt a 3
  have b0 := byteK_lt b 0; have b1 := byteK_lt b 1; have b2 := byteK_lt b 2; have b3 := byteK_lt b 3
  match i, hi with
  | 0, _ => constructor <;> intro h <;> omega
  | 1, _ =>
    have e0 := he 0 (by omega)
    constructor <;> intro h <;> omega
  | 2, _ =>
    have e0 := he 0 (by omega)
    have e1 := he 1 (by omega)
    constructor <;> intro h <;> omega
  | 3, _ =>
    have e0 := he 0 (by omega)
    have e1 := he 1 (by omega)
    have e2 := he 2 (by omega)
    constructor <;> intro h <;> omega
theorem num_same {a b : KeyT} (he : ∀ j, j < 4 → byteK a j = byteK b j) : a.num = b.num := by
  have ha := num_byte a
  have hb := num_byte b
  have e0 := he 0 (by omega)
  have e1 := he 1 (by omega)
  have e2 := he 2 (by omega)
  have e3 := he 3 (by omega)
  omega
theorem KeyC.byte {w : World} {kb : Nat} {k : KeyT} (h : KeyC w kb k) {i : Nat} (hi : i < 4) : w.cell? ⟨kb, i, none⟩ = some (.int .u8 (byteK k i)) := by
  have hk : w.heap[kb]? = some (.cells (kv k).toArray 24 (0, 0)) := h
  simp only [World.cell?, hk]
  have := byte_kv k hi
  simpa using this
set_option maxRecDepth 100000 in
set_option maxHeartbeats 2000000 in
theorem refBelow_any (a b : KeyT) (w : World) : Calls Try.prog 69 #[KV a, KV b] w fun e w' => e = .returned (.bool (decide (a.num < b.num))) ∧ Below w.heap.size w w' := by
  have hb1 : Below w.heap.size w (w.alloc (.cells #[.int .u8 (a.a.val : Int), .int .u8 (a.b.val : Int), .int .u8 (a.c.val : Int), .int .u8 (a.d.val : Int)] 24)) := (Below.refl _ w).alloc (Nat.le_refl _) _
  have hk1 : KeyC (w.alloc (.cells #[.int .u8 (a.a.val : Int), .int .u8 (a.b.val : Int), .int .u8 (a.c.val : Int), .int .u8 (a.d.val : Int)] 24)) w.heap.size a := heap_alloc_new w _
  have hb2 : ∀ w1 : World, Below w1.heap.size w1 (w1.alloc (.cells #[.int .u8 (b.a.val : Int), .int .u8 (b.b.val : Int), .int .u8 (b.c.val : Int), .int .u8 (b.d.val : Int)] 24)) := fun w1 => (Below.refl _ w1).alloc (Nat.le_refl _) _
  have hk2 : ∀ w1 : World, KeyC (w1.alloc (.cells #[.int .u8 (b.a.val : Int), .int .u8 (b.b.val : Int), .int .u8 (b.c.val : Int), .int .u8 (b.d.val : Int)] 24)) w1.heap.size b := fun w1 => heap_alloc_new w1 _
  have HB := Lib.hid (hb1.trans ((hb2 _).mono hb1.size))
  have HKA := Lib.hid (hk1.still (hb2 _))
  have HKB := Lib.hid (show KeyC _ (w.heap.size + 1) b by have := hk2 (w.alloc (.cells #[.int .u8 (a.a.val : Int), .int .u8 (a.b.val : Int), .int .u8 (a.c.val : Int), .int .u8 (a.d.val : Int)] 24)); rw [World.size_alloc] at this; exact this)
  clear hb1 hk1 hb2 hk2
  simp only [KV_def]
  go_enter Try.func69, Try.ntmps69
  go_wp2_with fail
  generalize ((w.alloc (.cells #[.int .u8 (a.a.val : Int), .int .u8 (a.b.val : Int), .int .u8 (a.c.val : Int), .int .u8 (a.d.val : Int)] 24)).alloc (.cells #[.int .u8 (b.a.val : Int), .int .u8 (b.b.val : Int), .int .u8 (b.c.val : Int), .int .u8 (b.d.val : Int)] 24)) = V at *
  go_loopg [5] 4 (fun gg s5 wq => ∃ i : Nat, i ≤ 4 ∧ 4 - i ≤ gg ∧ s5 = .int .i64 i ∧ Hid (∀ j, j < i → byteK a j = byteK b j) ∧ Hid (Below V.heap.size V wq))
  case atStart => exact ⟨0, Nat.zero_le _, by omega, rfl, Lib.hid (fun j hj => absurd hj (by omega)), Lib.hid (Below.refl _ _)⟩
  case round =>
    obtain ⟨i, hi, hgi, rfl, HE, HBr⟩ := hrel
    by_cases hil : i < 4
    · have hiz : (i : Int) < 4 := by omega
      have x0 := (HKA.out.still HBr.out).byte hil
      have y0 := (HKB.out.still HBr.out).byte hil
      have xl := (HKA.out.still HBr.out).lt
      have yl := (HKB.out.still HBr.out).lt
      have HA := Lib.hid (byteK_lt a i)
      by_cases hne : byteK a i = byteK b i
      · have HN := Lib.hid (show ∀ j, j < i + 1 → byteK a j = byteK b j from fun j hj => by
          by_cases e : j = i
          · rw [e]; exact hne
          · exact HE.out j (by omega))
        have e1 : (byteK a i != byteK b i) = false := by simp [hne]
        generalize byteK a i = x at *
        generalize byteK b i = y at *
        clear hne
        go_wp2_with fail
        go_quiet (fail)
        go_wp2_with fail
        go_roundg (4 - (i + 1))
        case measure => omega
        case rel => exact ⟨i + 1, by omega, by omega, by go_num, HN, Lib.hid (HBr.out.trans ((below_drewN (Below.refl _ wr) _).mono HBr.out.size))⟩
      · have HD := Lib.hid (show decide (a.num < b.num) = decide (byteK a i < byteK b i) from decide_eq_decide.2 (num_first hil HE.out hne))
        have e1 : (byteK a i != byteK b i) = true := by simpa using hne
        clear hne
        generalize byteK a i = x at *
        generalize byteK b i = y at *
        go_wp2_with fail
        go_quiet (fail)
        go_wp2_with fail
        go_quiet (fail)
        go_wp2_with fail
        go_ret
        exact ⟨by rw [HD.out]; rfl, HB.out.trans ((HBr.out.trans ((below_drewN (below_drewN (Below.refl _ wr) _) _).mono HBr.out.size)).mono HB.out.size)⟩
    · obtain rfl : i = 4 := by omega
      have HD := Lib.hid (show decide (a.num < b.num) = false from decide_eq_false (by rw [num_same HE.out]; omega))
      go_wp2_with fail
      go_ret
      exact ⟨by rw [HD.out]; rfl, HB.out.trans (HBr.out.mono HB.out.size)⟩
section
variable {α : Type}
theorem EIn.flat {E : Elt α} {W : World} {ad : Addr} {l : List α} (hin : EIn E W (some ad) l) : ∀ j u, (l.flatMap E.enc)[j]? = some u → W.cell? (ad.add j) = some u := fun j u hu => by
  have hj : j < l.length * E.n := by have := (List.getElem?_eq_some_iff.1 hu).1; rwa [flatMap_len E.len] at this
  have hi : j / E.n < l.length := Nat.div_lt_of_lt_mul (by rw [Nat.mul_comm]; exact hj)
  have hr : j % E.n < E.n := Nat.mod_lt _ E.pos
  have hd : j / E.n * E.n + j % E.n = j := Nat.div_add_mod' _ _
  have h1 := flatMap_get E.len l (j / E.n) (j % E.n) _ (List.getElem?_eq_getElem hi) hr
  rw [hd, hu] at h1
  rcases hin with e | ⟨b, off, e, hc⟩
  · rw [e] at hj; simp at hj
  · obtain rfl := Option.some.inj e
    have := hc _ _ (List.getElem?_eq_getElem hi) _ _ h1.symm
    rw [show off + j / E.n * E.n + j % E.n = off + j by omega] at this
    rw [Go.WideShapes.add_plain]
    exact this
set_option maxRecDepth 100000 in
/-- An append onto a slice without room. -/
theorem step_growI (E : Elt α) {ops : Array Oper} {o : Oper} {a : Act} {K : Act → World → Prop} {Q : Exit → Act → World → Prop} {Z : Prop} (W : World) (hgd : o.guard = none) (s x : Operand) (ho : o.op = .call { callee := .builtin .append, args := #[s, x], argTypes := #[E.st, E.st] })
    (base g n : Nat) (l : List α) (hs : a.eval s = .slice (some ⟨g, 0, none⟩) n n) (hn : l.length = n) (hin : EIn E W (some ⟨g, 0, none⟩) l) (ad : Addr) (l2 : List α) (m c : Nat) (hx : a.eval x = .slice (some ad) m c) (hm : l2.length = m) (h0 : 0 < m) (hin2 : EIn E W (some ad) l2) (hlen : n + m ≤ 4000) (hbase : base ≤ W.heap.size)
    (h : ∀ v' w', ERow E base w' v' (l ++ l2) → W.grownBy w' none → v'.ownBlock = some W.heap.size → K (a.put o.dst v') w') : if Region.wanted o (yielded ops a.tmps) = true then Oper.wp Try.prog o a W K Q else Z := by
  have hw : Region.wanted o (yielded ops a.tmps) = true := by simp [Region.wanted, hgd]
  rw [if_pos hw]
  obtain ⟨i0, hi, hz0, hz1, hz2⟩ := E.info
  have hb : (n + m) * E.bytes ≤ 140737488355328 := Nat.le_trans (Nat.mul_le_mul hlen E.small) (by decide)
  have hl1 : (l.flatMap E.enc).length = n * E.n := by rw [flatMap_len E.len, hn]
  have hl2 : (l2.flatMap E.enc).length = m * E.n := by rw [flatMap_len E.len, hm]
  have hr := run_append_grow (P := Try.prog) W E.st o.type E.et i0 E.z E.under hi hz0 ⟨g, 0, none⟩ n n (l.flatMap E.enc) (by rw [hz1]; exact hl1) hin.flat ad m c (l2.flatMap E.enc) (by rw [hz1]; exact hl2) hin2.flat (by omega) (by omega) (growslice_fits (by omega) (by rw [hz2]; exact hb))
  have hge := grownCap_ge W (n + m) n E.et
  have hcm : grownCap W (n + m) n E.et ≤ maxLen := grownCap_le_maxLen W (n + m) n E.et (by unfold maxLen; omega)
  unfold Oper.wp execOp
  simp only [ho, resolve, invoke, builtin, Sem.run_bind, Sem.run_pure, Result.andThen_ok, List.map_toArray, List.map_cons, List.map_nil, hs, hx, hr]
  refine h _ _ ⟨by rw [flatMap_len E.len], .inr ⟨W.heap.size, _, _, by rw [List.length_append, hn, hm], hbase, heap_alloc_new W.drew _, by rw [List.length_append, hn, hm]; exact hge, hcm, ?_, ?_⟩⟩ ⟨rfl, rfl, rfl, by simp, fun k hk _ => Below.heap_alloc W.drew _ k hk⟩ rfl
  · rw [Array.size_append, Array.size_append, List.size_toArray, List.size_toArray, size_zeroCells, hl1, hl2, E.hzs, ← Nat.add_mul, ← Nat.add_mul]
    congr 1
    omega
  · simp only [Array.toList_append, List.append_assoc]
    rw [← List.append_assoc, List.flatMap_append, List.length_append, hn, hm, Nat.add_mul, ← hl1, ← hl2, ← List.length_append]
    exact List.take_left
end
end Go.Proofs.Ytnfodidfhnofkaa

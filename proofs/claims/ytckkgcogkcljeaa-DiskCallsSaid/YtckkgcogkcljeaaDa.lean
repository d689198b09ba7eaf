/- Layer 3 (disk) as plain mathematics: what lasts, the cache, and what each call does to them. No program. -/
namespace Go.Proofs.Ytckkgcogkcljeaa

/-- What lasts, and the writes in the cache, in order. -/
structure St where
  safe : List (List Int)
  cache : List (Nat × List Int)

def carry : List (List Int) → List (Nat × List Int) → List (List Int)
  | s, [] => s
  | s, p :: ws => carry (s.set p.1 p.2) ws
def secAt (s : List (List Int)) (i : Nat) : List Int := s[i]?.getD []
def lastIn (i : Nat) : List (Nat × List Int) → Option (List Int)
  | [] => none
  | p :: ws => match lastIn i ws with
    | some z => some z
    | none => if p.1 = i then some p.2 else none

theorem carry_append (ws vs : List (Nat × List Int)) : ∀ s, carry s (ws ++ vs) = carry (carry s ws) vs := by
  induction ws with
  | nil => intro s; rfl
  | cons p ws ih => intro s; exact ih _
theorem carry_snoc (s : List (List Int)) (ws : List (Nat × List Int)) (p : Nat × List Int) : carry s (ws ++ [p]) = (carry s ws).set p.1 p.2 := by rw [carry_append]; rfl
theorem length_carry (ws : List (Nat × List Int)) : ∀ s, (carry s ws).length = s.length := by
  induction ws with
  | nil => intro s; rfl
  | cons p ws ih => intro s; rw [carry, ih]; simp
theorem secAt_set (s : List (List Int)) (i j : Nat) (z : List Int) (hi : i < s.length) : secAt (s.set j z) i = if j = i then z else secAt s i := by
  unfold secAt
  rw [List.getElem?_set]
  by_cases h : j = i
  · subst h; simp [hi]
  · simp [h]
theorem carry_at (ws : List (Nat × List Int)) (i : Nat) : ∀ s : List (List Int), i < s.length → secAt (carry s ws) i = (lastIn i ws).getD (secAt s i) := by
  induction ws with
  | nil => intro s _; rfl
  | cons p ws ih =>
    intro s hi
    rw [carry, ih _ (by simpa using hi), secAt_set _ _ _ _ hi, lastIn]
    cases lastIn i ws with
    | some z => rfl
    | none => by_cases h : p.1 = i <;> simp [h]
theorem lastIn_snoc (i : Nat) (ws : List (Nat × List Int)) (p : Nat × List Int) : lastIn i (ws ++ [p]) = if p.1 = i then some p.2 else lastIn i ws := by
  induction ws with
  | nil => simp [lastIn]
  | cons q ws ih =>
    rw [List.cons_append, lastIn, ih]
    by_cases h : p.1 = i
    · simp [h]
    · rw [if_neg h, if_neg h]; rfl
theorem lastIn_mem (i : Nat) (ws : List (Nat × List Int)) (z : List Int) (h : lastIn i ws = some z) : (i, z) ∈ ws := by
  induction ws with
  | nil => simp [lastIn] at h
  | cons q ws ih =>
    rw [lastIn] at h
    cases hl : lastIn i ws with
    | some y => rw [hl] at h; simp at h; subst h; exact List.mem_cons_of_mem _ (ih hl)
    | none =>
      rw [hl] at h
      simp at h
      obtain ⟨h1, h2⟩ := h
      have : q = (i, z) := by rw [← h1, ← h2]
      rw [this]; exact List.mem_cons_self

/-- There are n sectors of 32 bytes, and each write in the cache is of one of them. -/
structure Wf (n : Nat) (st : St) : Prop where
  len : st.safe.length = n
  secs : ∀ z ∈ st.safe, z.length = 32
  at_ : ∀ p ∈ st.cache, p.1 < n
  has : ∀ p ∈ st.cache, p.2.length = 32

def nows (st : St) : List (List Int) := carry st.safe st.cache
def nowAt (st : St) (i : Nat) : List Int := secAt (nows st) i
def goodAt (n : Nat) (i : Int) : Bool := decide (0 ≤ i) && decide (i < n)
def writeS (st : St) (i : Nat) (zs : List Int) : St := { st with cache := st.cache ++ [(i, zs)] }
def flushS (st : St) : St := { safe := nows st, cache := [] }
def keptOf (keep : Int) (l : Nat) : Nat := min keep.toNat l
def tearOf (tear : Int) : Nat := min tear.toNat 31
def tornS (s : List (List Int)) (p : Nat × List Int) (t : Nat) : List (List Int) := s.set p.1 (p.2.take t ++ (secAt s p.1).drop t)
def crashL (s : List (List Int)) (ws : List (Nat × List Int)) (keep tear : Int) : List (List Int) :=
  match ws[keptOf keep ws.length]? with
  | none => carry s ws
  | some p => tornS (carry s (ws.take (keptOf keep ws.length))) p (tearOf tear)
def crashS (st : St) (keep tear : Int) : St := { safe := crashL st.safe st.cache keep tear, cache := [] }

theorem mem_carry (ws : List (Nat × List Int)) (h : ∀ p ∈ ws, p.2.length = 32) : ∀ s : List (List Int), (∀ z ∈ s, z.length = 32) → ∀ z ∈ carry s ws, z.length = 32 := by
  induction ws with
  | nil => intro s hs; exact hs
  | cons p ws ih =>
    intro s hs
    refine ih (fun q hq => h q (List.mem_cons_of_mem _ hq)) _ ?_
    intro z hz
    rcases List.mem_or_eq_of_mem_set hz with h1 | h1
    · exact hs z h1
    · rw [h1]; exact h p List.mem_cons_self
theorem secAt_mem {s : List (List Int)} {i : Nat} (hi : i < s.length) : secAt s i ∈ s := by
  unfold secAt; rw [List.getElem?_eq_getElem hi]; exact List.getElem_mem hi
theorem secAt_len {s : List (List Int)} {n i : Nat} (hl : s.length = n) (hs : ∀ z ∈ s, z.length = 32) (hi : i < n) : (secAt s i).length = 32 := hs _ (secAt_mem (by omega))
theorem Wf.nows_len {n : Nat} {st : St} (h : Wf n st) : (nows st).length = n := by unfold nows; rw [length_carry, h.len]
theorem Wf.nows_secs {n : Nat} {st : St} (h : Wf n st) : ∀ z ∈ nows st, z.length = 32 := mem_carry _ h.has _ h.secs
theorem Wf.now_len {n : Nat} {st : St} (h : Wf n st) {i : Nat} (hi : i < n) : (nowAt st i).length = 32 := secAt_len h.nows_len h.nows_secs hi
theorem Wf.write {n : Nat} {st : St} (h : Wf n st) {i : Nat} {zs : List Int} (hi : i < n) (hz : zs.length = 32) : Wf n (writeS st i zs) := by
  refine ⟨h.len, h.secs, ?_, ?_⟩
  · intro p hp
    simp only [writeS, List.mem_append, List.mem_singleton] at hp
    rcases hp with hp | rfl
    · exact h.at_ p hp
    · exact hi
  · intro p hp
    simp only [writeS, List.mem_append, List.mem_singleton] at hp
    rcases hp with hp | rfl
    · exact h.has p hp
    · exact hz
theorem Wf.carry {n : Nat} {st : St} (h : Wf n st) (l : Nat) : Wf n { st with safe := carry st.safe (st.cache.take l) } :=
  ⟨by rw [length_carry, h.len], mem_carry _ (fun p hp => h.has p (List.mem_of_mem_take hp)) _ h.secs, h.at_, h.has⟩
theorem Wf.empty {n : Nat} {st : St} (h : Wf n st) : Wf n { st with cache := [] } := ⟨h.len, h.secs, (fun _ hp => by cases hp), (fun _ hp => by cases hp)⟩
theorem Wf.flush {n : Nat} {st : St} (h : Wf n st) : Wf n (flushS st) := ⟨h.nows_len, h.nows_secs, (fun _ hp => by cases hp), (fun _ hp => by cases hp)⟩
theorem torn_len {n : Nat} {s : List (List Int)} {p : Nat × List Int} {t : Nat} (hl : s.length = n) (hs : ∀ z ∈ s, z.length = 32) (hi : p.1 < n) (hz : p.2.length = 32) (ht : t ≤ 31) : (tornS s p t).length = n ∧ ∀ z ∈ tornS s p t, z.length = 32 := by
  refine ⟨by unfold tornS; simpa using hl, fun z hz' => ?_⟩
  rcases List.mem_or_eq_of_mem_set hz' with h1 | h1
  · exact hs z h1
  · have := secAt_len hl hs hi
    rw [h1]; simp; omega
theorem Wf.crash {n : Nat} {st : St} (h : Wf n st) (keep tear : Int) : Wf n (crashS st keep tear) := by
  have hc := h.carry (keptOf keep st.cache.length)
  unfold crashS crashL
  cases e : st.cache[keptOf keep st.cache.length]? with
  | none => exact ⟨h.nows_len, h.nows_secs, (fun _ hp => by cases hp), (fun _ hp => by cases hp)⟩
  | some p =>
    have hp := List.mem_of_getElem? e
    obtain ⟨h1, h2⟩ := torn_len (t := tearOf tear) hc.len hc.secs (h.at_ p hp) (h.has p hp) (by unfold tearOf; omega)
    exact ⟨h1, h2, (fun _ hp => by cases hp), (fun _ hp => by cases hp)⟩
theorem now_write {n : Nat} {st : St} (h : Wf n st) {i j : Nat} {zs : List Int} (hj : j < n) : nowAt (writeS st i zs) j = if i = j then zs else nowAt st j := by
  show secAt (carry st.safe (st.cache ++ [(i, zs)])) j = _
  rw [carry_snoc, secAt_set _ _ _ _ (by rw [length_carry, h.len]; exact hj)]
  rfl
theorem now_flush (st : St) (i : Nat) : nowAt (flushS st) i = nowAt st i := rfl

/-! ### all bytes, one behind the other -/
theorem flat_len {n : Nat} (s : List (List Int)) (hl : s.length = n) (hs : ∀ z ∈ s, z.length = 32) : s.flatten.length = 32 * n := by
  induction s generalizing n with
  | nil => simp at hl; subst hl; rfl
  | cons z s ih =>
    have h1 := ih (n := n - 1) (by simp at hl; omega) (fun y hy => hs y (List.mem_cons_of_mem _ hy))
    have h2 := hs z List.mem_cons_self
    simp at hl ⊢
    simp at h1
    omega
theorem flat_take (s : List (List Int)) (i : Nat) (hi : i < s.length) : (s.take (i + 1)).flatten = (s.take i).flatten ++ secAt s i := by
  have e : secAt s i = s[i] := by simp [secAt, hi]
  rw [List.take_succ_eq_append_getElem hi, List.flatten_append, e]
  simp
theorem flat_sec {n : Nat} (s : List (List Int)) (hl : s.length = n) (hs : ∀ z ∈ s, z.length = 32) (i : Nat) (hi : i < n) : (s.flatten.drop (32 * i)).take 32 = secAt s i := by
  induction s generalizing n i with
  | nil => simp at hl; omega
  | cons z s ih =>
    have h2 := hs z List.mem_cons_self
    rw [List.flatten_cons]
    cases i with
    | zero => simp [secAt, h2]
    | succ i =>
      have e : 32 * (i + 1) = z.length + 32 * i := by omega
      rw [e, List.drop_append]
      have e1 : List.drop (z.length + 32 * i) z = [] := List.drop_eq_nil_of_le (by omega)
      rw [e1, List.nil_append, Nat.add_sub_cancel_left]
      exact ih (n := n - 1) (by simp at hl; omega) (fun y hy => hs y (List.mem_cons_of_mem _ hy)) i (by omega)
end Go.Proofs.Ytckkgcogkcljeaa

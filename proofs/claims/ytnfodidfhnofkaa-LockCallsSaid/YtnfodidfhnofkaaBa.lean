/- Locks as plain mathematics: keys, a row's holders and those who wait, what is granted, and the table's state. -/
import Derived.Below
namespace Go.Proofs.Ytnfodidfhnofkaa

/-! ### keys -/
structure KeyT where
  a : Fin 256
  b : Fin 256
  c : Fin 256
  d : Fin 256
def KeyT.num (k : KeyT) : Nat := 16777216 * k.a.val + 65536 * k.b.val + 256 * k.c.val + k.d.val
theorem KeyT.num_inj {x y : KeyT} (h : x.num = y.num) : x = y := by
  obtain ⟨⟨a, ha⟩, ⟨b, hb⟩, ⟨c, hc⟩, ⟨d, hd⟩⟩ := x
  obtain ⟨⟨a', ha'⟩, ⟨b', hb'⟩, ⟨c', hc'⟩, ⟨d', hd'⟩⟩ := y
  simp only [KeyT.num] at h
  obtain rfl : a = a' := by omega
  obtain rfl : b = b' := by omega
  obtain rfl : c = c' := by omega
  obtain rfl : d = d' := by omega
  rfl
instance : DecidableEq KeyT := fun x y => if h : x.num = y.num then isTrue (KeyT.num_inj h) else isFalse (fun e => h (by rw [e]))
instance : Inhabited KeyT := ⟨⟨0, 0, 0, 0⟩⟩
def SortedK (l : List KeyT) : Prop := l.Pairwise fun x y => x.num < y.num
def SortedN (l : List Int) : Prop := l.Pairwise fun x y => x < y
theorem sorted_one {α : Type} (lt : α → α → Prop) (irr : ∀ x, ¬ lt x x) (asym : ∀ x y, lt x y → ¬ lt y x) : ∀ {l l' : List α}, l.Pairwise lt → l'.Pairwise lt → (∀ x, x ∈ l ↔ x ∈ l') → l = l'
  | [], [], _, _, _ => rfl
  | [], y :: l', _, _, h => by have := (h y).2 List.mem_cons_self; cases this
  | x :: l, [], _, _, h => by have := (h x).1 List.mem_cons_self; cases this
  | x :: l, y :: l', h1, h2, h => by
    obtain ⟨a1, b1⟩ := List.pairwise_cons.1 h1
    obtain ⟨a2, b2⟩ := List.pairwise_cons.1 h2
    have e : x = y := by
      rcases List.mem_cons.1 ((h x).1 List.mem_cons_self) with e | hx
      · exact e
      · rcases List.mem_cons.1 ((h y).2 List.mem_cons_self) with e | hy
        · exact e.symm
        · exact absurd (a1 y hy) (asym _ _ (a2 x hx))
    subst e
    rw [sorted_one lt irr asym b1 b2 fun z => ⟨fun hz => by
      rcases List.mem_cons.1 ((h z).1 (List.mem_cons_of_mem _ hz)) with rfl | h'
      · exact absurd (a1 z hz) (irr z)
      · exact h', fun hz => by
      rcases List.mem_cons.1 ((h z).2 (List.mem_cons_of_mem _ hz)) with rfl | h'
      · exact absurd (a2 z hz) (irr z)
      · exact h'⟩]
theorem sortedK_one {l l' : List KeyT} (h : SortedK l) (h' : SortedK l') (hm : ∀ x, x ∈ l ↔ x ∈ l') : l = l' := sorted_one (fun x y : KeyT => x.num < y.num) (fun x => Nat.lt_irrefl _) (fun x y h k => by omega) h h' hm
theorem sortedN_one {l l' : List Int} (h : SortedN l) (h' : SortedN l') (hm : ∀ x, x ∈ l ↔ x ∈ l') : l = l' := sorted_one (fun x y : Int => x < y) (fun x => Int.lt_irrefl _) (fun x y h k => by omega) h h' hm

/-! ### a row -/
/-- How a transaction holds: 0, 1, 2. -/
def howH : List (Int × Int) → Int → Int
  | [], _ => 0
  | h :: t, tx => if h.1 = tx then h.2 else howH t tx
def mayH (hs : List (Int × Int)) (tx want : Int) : Bool := !(hs.any fun h => (h.1 != tx) && (want == 2 || h.2 == 2))
def grantH : List (Int × Int) → Int → Int → List (Int × Int)
  | [], tx, want => [(tx, want)]
  | h :: t, tx, want => if h.1 = tx then (h.1, want) :: t else h :: grantH t tx want
def releaseH (hs : List (Int × Int)) (tx : Int) : List (Int × Int) := hs.filter fun h => h.1 != tx
def leaveW (ws : List Int) (tx : Int) : List Int := ws.filter fun t => t != tx
/-- The place of the first one for which p says yes; the length, if there is none. -/
def placeOf {α : Type} (p : α → Bool) : List α → Nat
  | [] => 0
  | x :: t => if p x then 0 else placeOf p t + 1
def queueAt (hs : List (Int × Int)) (ws : List Int) (tx : Int) : Nat := if howH hs tx = 0 then ws.length else placeOf (fun t => howH hs t == 0) ws
def queueW (hs : List (Int × Int)) (ws : List Int) (tx : Int) : List Int := ws.take (queueAt hs ws tx) ++ tx :: ws.drop (queueAt hs ws tx)
/-- Those who wait are granted, as long as they may. -/
def goH (want : Int → Int) : List (Int × Int) → List Int → List (Int × Int) × List Int
  | hs, [] => (hs, [])
  | hs, tx :: ws => if mayH hs tx (want tx) then goH want (grantH hs tx (want tx)) ws else (hs, tx :: ws)

structure PRow where
  hs : List (Int × Int)
  ws : List Int
structure PWish where
  key : KeyT
  want : Int
  since : Int
structure PS where
  wait : Int
  rows : KeyT → Option PRow
  wish : Int → Option PWish
def PS.row (st : PS) (k : KeyT) : PRow := (st.rows k).getD ⟨[], []⟩
def upd {α β : Type} [DecidableEq α] (f : α → β) (x : α) (y : β) : α → β := fun z => if z = x then y else f z
theorem upd_same {α β : Type} [DecidableEq α] (f : α → β) (x : α) (y : β) : upd f x y x = y := by simp [upd]
theorem upd_other {α β : Type} [DecidableEq α] {f : α → β} {x z : α} {y : β} (h : z ≠ x) : upd f x y z = f z := by simp [upd, h]
def wantOf (wi : Int → Option PWish) (tx : Int) : Int := match wi tx with | some w => w.want | none => 0
def newPS (wait : Int) : PS := ⟨wait, fun _ => none, fun _ => none⟩
def rowO (hs : List (Int × Int)) (ws : List Int) : Option PRow := if hs.length = 0 then none else some ⟨hs, ws⟩
/-- A key goes on with the row r. -/
def goOnS (st : PS) (k : KeyT) (r : PRow) : PS :=
  { st with rows := upd st.rows k (rowO (goH (wantOf st.wish) r.hs r.ws).1 (goH (wantOf st.wish) r.hs r.ws).2)
            wish := fun t => if t ∈ r.ws ∧ t ∉ (goH (wantOf st.wish) r.hs r.ws).2 then none else st.wish t }
def wantN (ex : Bool) : Int := if ex then 2 else 1
def badAsk (tx now : Int) : Bool := decide (tx < 1) || decide (1048576 < tx) || decide (now < 0) || decide (1099511627776 < now)
def askS (st : PS) (tx : Int) (k : KeyT) (ex : Bool) (now : Int) : PS × Int :=
  if badAsk tx now then (st, 11)
  else if wantN ex ≤ howH (st.row k).hs tx then (st, 0)
  else match st.wish tx with
    | some w => (st, if w.key = k then 17 else 13)
    | none =>
      if mayH (st.row k).hs tx (wantN ex) && (decide (howH (st.row k).hs tx ≠ 0) || decide ((st.row k).ws.length = 0)) then
        ({ st with rows := upd st.rows k (some ⟨grantH (st.row k).hs tx (wantN ex), (st.row k).ws⟩) }, 0)
      else ({ st with rows := upd st.rows k (some ⟨(st.row k).hs, queueW (st.row k).hs (st.row k).ws tx⟩), wish := upd st.wish tx (some ⟨k, wantN ex, now⟩) }, 17)
def quitS (st : PS) (tx : Int) : PS × Bool :=
  match st.wish tx with
  | none => (st, false)
  | some w => (goOnS { st with wish := upd st.wish tx none } w.key ⟨(st.row w.key).hs, leaveW (st.row w.key).ws tx⟩, true)
/-- One key of those that a transaction leaves. -/
def freeK (tx : Int) (st : PS) (k : KeyT) : PS := goOnS st k ⟨releaseH (st.row k).hs tx, leaveW (st.row k).ws tx⟩
def touches (st : PS) (tx : Int) (k : KeyT) : Bool := decide (howH (st.row k).hs tx ≠ 0) || decide (tx ∈ (st.row k).ws)
/-- A transaction is free: ks are the keys that it holds or waits for, rising. -/
def freeL (st : PS) (tx : Int) (ks : List KeyT) : PS := ks.foldl (freeK tx) { st with wish := upd st.wish tx none }
end Go.Proofs.Ytnfodidfhnofkaa

/- bytes.Equal, over Gc (for any stage): the part of Sl that needs nothing of layer 2: never import both. -/
import Derived.Test.YtlohogcddelekaaGc
import Derived.Lib.SliceRun
import Derived.Lib.Bytes
import Derived.Laws.BytesArg
namespace Go.Proofs.Ytlohogcddelekaa
open Go.RowKit Go.Deep

theorem strOfNums_inj {xs ys : List Int} (hx : isBytes xs) (hy : isBytes ys) : (strOfNums xs = strOfNums ys) ↔ xs = ys := by
  constructor
  · intro h
    have h1 : (strOfNums xs).data.toList = (strOfNums ys).data.toList := by rw [h]
    rw [strOfNums_data, strOfNums_data] at h1
    have hl : xs.length = ys.length := by have := congrArg List.length h1; simpa using this
    apply List.ext_getElem hl
    intro i h2 h3
    have e : (xs.map fun n => UInt8.ofNat n.toNat)[i]? = (ys.map fun n => UInt8.ofNat n.toNat)[i]? := by rw [h1]
    simp [h2, h3] at e
    have e2 := congrArg UInt8.toNat e
    have a := hx _ (List.getElem_mem h2)
    have b := hy _ (List.getElem_mem h3)
    simp at e2
    omega
  · rintro rfl; rfl
theorem str_good (A : Option Addr) (c : Nat) (zs : List Int) (l : Nat) (hl : zs.length = l) (w : World) (g : Good A c zs w) (src dst e : TypeId) (hs : Try.prog.underlying src = some (.slice e)) (he : Try.prog.underlying e = some (.int .u8)) (hd : Try.prog.underlying dst = some .string) : (convert src dst (.slice A l c)).run Try.prog w = .ok (.string (strOfNums zs)) w := by
  by_cases h0 : 0 < zs.length
  · obtain ⟨b, off, rfl, _, hc⟩ := g.1 h0
    refine run_convert_bytes_arg w src e hs he b off l c zs hl (fun i hi => ?_) dst hd
    rw [hc i (by omega)]
    simp [List.getD]
  · obtain rfl : zs = [] := List.eq_nil_of_length_eq_zero (by omega)
    obtain rfl : l = 0 := by simpa using hl.symm
    rw [run_convert_bytes_string w src dst e _ 0 c hs he hd]
    cases A <;> simp [Conv.bytesToString, loadCells] <;> rfl

set_option maxHeartbeats 1000000 in
theorem equal_any (A A' : Option Addr) (xs ys : List Int) (c c' l l' : Nat) (o : Bool) (hll : xs.length = l) (hll' : ys.length = l') (hx : isBytes xs) (hy : isBytes ys) (ho : (xs == ys) = o) (w : World) (g : Good A c xs w) (g' : Good A' c' ys w) :
    Calls Try.prog 36 #[.slice A l c, .slice A' l' c'] w fun e w' => e = .returned (.bool o) ∧ w = w' := by
  have k1 := str_good A c xs l hll w g 23 9 5 Try.underlying23 Try.underlying5 Try.underlying9
  have k2 := str_good A' c' ys l' hll' w g' 23 9 5 Try.underlying23 Try.underlying5 Try.underlying9
  have hi := Lib.hid (strOfNums_inj hx hy)
  clear g g' hll hll' hx hy
  go_enter Try.func36, Try.ntmps36
  go_wp2
  go_ret
  refine ⟨?_, rfl⟩
  show Ending.returned (.bool ((strOfNums xs).toList == (strOfNums ys).toList)) = _
  rw [← ho, Lib.strOfNums_toList, Lib.strOfNums_toList]
  congr 2
  rw [Bool.eq_iff_iff, beq_iff_eq, beq_iff_eq, ← hi.out]
  constructor
  · intro h
    have h2 : (strOfNums xs).data = (strOfNums ys).data := Array.toList_inj.1 (by rw [strOfNums_data, strOfNums_data]; exact h)
    exact ByteArray.ext h2
  · intro h; rw [← Lib.strOfNums_toList, ← Lib.strOfNums_toList, h]

end Go.Proofs.Ytlohogcddelekaa

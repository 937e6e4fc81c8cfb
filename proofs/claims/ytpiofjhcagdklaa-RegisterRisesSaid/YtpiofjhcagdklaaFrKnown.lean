/- Bytes as strings, and contract of the sanity check of layer 13's laws. -/
import Derived.Test.YtpiofjhcagdklaaFrEnc
import Derived.Test.YtpiofjhcagdklaaFrDec
import Derived.Laws.BytesArg
namespace Go.Proofs.Ytpiofjhcagdklaa
open Go Go.RowKit Fl

theorem strOfNums_inj {a b : List Int} (ha : BytesL a) (hb : BytesL b) (h : strOfNums a = strOfNums b) : a = b := by
  have h1 : a.map (fun n => UInt8.ofNat n.toNat) = b.map (fun n => UInt8.ofNat n.toNat) := by rw [← strOfNums_data a, ← strOfNums_data b, h]
  have hl : a.length = b.length := by simpa using congrArg List.length h1
  refine List.ext_getElem hl (fun i h2 h3 => ?_)
  have h4 : UInt8.ofNat a[i].toNat = UInt8.ofNat b[i].toNat := by
    have := congrArg (fun l => l[i]?) h1
    simpa [h2, h3] using this
  have h5 := ha _ (List.getElem_mem h2)
  have h6 := hb _ (List.getElem_mem h3)
  have h7 := congrArg UInt8.toNat h4
  rw [UInt8.toNat_ofNat_of_lt' (by show _ < 256; omega), UInt8.toNat_ofNat_of_lt' (by show _ < 256; omega)] at h7
  omega
theorem lit_b8 (W : World) (l : List Int) (cs : Array Value) (n : Nat) (hn : n = W.heap.size) (hl : cs.toList = l.map Bv8) : Holds (W.alloc (.cells cs 5)) (some ⟨n, 0, none⟩) (l.map Bv8) := by
  subst hn
  refine .inr ⟨W.heap.size, 0, rfl, by simp, fun j hj => ?_⟩
  rw [cell_of_row _ _ _ _ _ _ (heap_alloc_new W _), Nat.zero_add, ← Array.getElem?_toList, hl, List.getElem?_eq_getElem hj]
abbrev fK : FrD := ⟨1, 1, 258, 7, 1⟩
theorem fK_ok : errF fK = 0 := by decide
theorem fK_u64 : U64 fK.seq := by unfold U64; decide
theorem fK_enc : encF fK = [1, 1, 0, 0, 0, 0, 0, 0, 1, 2, 7, 1] := by decide
end Go.Proofs.Ytpiofjhcagdklaa

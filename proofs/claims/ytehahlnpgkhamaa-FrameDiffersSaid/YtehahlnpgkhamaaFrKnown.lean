/- Bytes as strings, and contract of the sanity check of layer 13's laws. -/
import Derived.Test.YtehahlnpgkhamaaFrEnc
import Derived.Test.YtehahlnpgkhamaaFrDec
import Derived.Laws.BytesArg
namespace Go.Proofs.Ytehahlnpgkhamaa
open Go Go.RowKit Fl

theorem conv8 (W : World) (A : Option Addr) (c : Nat) (l : List Int) (h : Holds W A (l.map Bv8)) : (convert 25 9 (.slice A l.length c)).run Try.prog W = .ok (.string (strOfNums l)) W := by
  rcases Nat.eq_zero_or_pos l.length with h0 | h0
  · obtain rfl := List.eq_nil_of_length_eq_zero h0
    rcases A with _ | a
    · exact run_convert_bytes_nil W _ _ Try.underlying25 Try.underlying5 0 c _ Try.underlying9
    · rw [run_convert_bytes_string W _ _ _ _ _ c Try.underlying25 Try.underlying5 Try.underlying9]
      exact run_bytesToString W a _ c [] (run_loadCells_list W a [] (fun j v hj => by simp at hj))
  · obtain ⟨b, o, rfl, _, hc⟩ := h.at_ (by simpa using h0)
    exact run_convert_bytes_arg W _ _ Try.underlying25 Try.underlying5 b o l.length c l rfl (fun i hi => by rw [hc i (by simpa using hi)]; simp [List.getD, hi]) _ Try.underlying9
theorem strOfNums_inj {a b : List Int} (ha : BytesL a) (hb : BytesL b) (h : strOfNums a = strOfNums b) : a = b := by
  have h1 : a.map (fun n => UInt8.ofNat n.toNat) = b.map (fun n => UInt8.ofNat n.toNat) := by rw [← strOfNums_data a, ← strOfNums_data b, h]
  have hl : a.length = b.length := by simpa using congrArg List.length h1
  refine List.ext_getElem hl (fun i h2 h3 => ?_)
  have h4 : UInt8.ofNat a[i].toNat = UInt8.ofNat b[i].toNat := by
    have := congrArg (fun l => l[i]?) h1
    simpa [h2, h3] using this
  have h5 := ha _ (List.getElem_mem h2)
  have h6 := hb _ (List.getElem_mem h3)
  have h7 := congrArg UInt8.toNat h4
  rw [UInt8.toNat_ofNat_of_lt' (by show _ < 256; omega), UInt8.toNat_ofNat_of_lt' (by show _ < 256; omega)] at h7
  omega
theorem lit_b8 (W : World) (l : List Int) (cs : Array Value) (n : Nat) (hn : n = W.heap.size) (hl : cs.toList = l.map Bv8) : Holds (W.alloc (.cells cs 5)) (some ⟨n, 0, none⟩) (l.map Bv8) := by
  subst hn
  refine .inr ⟨W.heap.size, 0, rfl, by simp, fun j hj => ?_⟩
  rw [cell_of_row _ _ _ _ _ _ (heap_alloc_new W _), Nat.zero_add, ← Array.getElem?_toList, hl, List.getElem?_eq_getElem hj]
abbrev fK : FrD := ⟨1, 1, 258, 7, 1⟩
theorem fK_ok : errF fK = 0 := by decide
theorem fK_u64 : U64 fK.seq := by unfold U64; decide
theorem fK_enc : encF fK = [1, 1, 0, 0, 0, 0, 0, 0, 1, 2, 7, 1] := by decide
set_option maxRecDepth 100000 in
set_option maxHeartbeats 4000000 in
theorem known13_c (w : World) : Calls Try.prog 7 #[] w fun e w' => e = .returned (.bool true) ∧ Below w.heap.size w w' := by
  have C := Lib.hid (encode_ok fK fK_ok fK_u64)
  rw [fK_enc] at C
  go_enter Try.func7, Try.ntmps7
  go_wp2_with fail
  refine (C.out _).mono ?_
  rintro e w1 ⟨g, c, rfl, hown, hb1⟩
  have HB1 := Lib.hid hb1
  have c1 := conv8 w1 (some ⟨g, 0, none⟩) c [1, 1, 0, 0, 0, 0, 0, 0, 1, 2, 7, 1] (ownsRow_holds hown)
  have c2 := conv8 _ (some ⟨w1.heap.size, 0, none⟩) 12 [1, 1, 0, 0, 0, 0, 0, 0, 1, 2, 7, 1] (lit_b8 w1 [1, 1, 0, 0, 0, 0, 0, 0, 1, 2, 7, 1] #[.int .u8 1, .int .u8 1, .int .u8 0, .int .u8 0, .int .u8 0, .int .u8 0, .int .u8 0, .int .u8 0, .int .u8 1, .int .u8 2, .int .u8 7, .int .u8 1] _ rfl rfl)
  simp only [List.length_cons, List.length_nil, Nat.zero_add, Nat.reduceAdd] at c1 c2
  generalize strOfNums [1, 1, 0, 0, 0, 0, 0, 0, 1, 2, 7, 1] = st at *
  clear hown hb1 C
  go_wp2
  go_ret
  exact ⟨by first | rfl | simp, HB1.out.alloc HB1.out.size _⟩
end Go.Proofs.Ytehahlnpgkhamaa

/- Contract of fields.Join: it returns a text whose lines are those given, or the error. -/
import Derived.Test.YtngapogkhpnieaaDoorFdValid
import Derived.Test.YtngapogkhpnieaaDoorFdBuilder
namespace Go.Proofs.YtngapogkhpnieaaDoor
open Go.RowKit Fl
attribute [local go_sem] bget

def JoinPost (w : World) (R : Except Nat (List UInt8)) (e : Ending) (w' : World) : Prop :=
  Below w.heap.size w w' ∧ match R with
    | .ok t => e = .returned (.tuple #[.string ⟨t.toArray⟩, .int .i64 0])
    | .error k => e = .returned (.tuple #[.string ⟨#[]⟩, .int .i64 k])
theorem formed_facts {last : Int} {ls : List LineI} {k : Nat} (h : k < ls.length) (hf : formed last (ls.drop k) = true) : last < ls[k].1 ∧ 0 < ls[k].2.length ∧ ls[k].2.all fieldOk = true ∧ formed ls[k].1 (ls.drop (k + 1)) = true := by
  rw [formed_drop h] at hf
  simp only [Bool.and_eq_true, decide_eq_true_eq] at hf
  exact ⟨hf.1.1.1, List.length_pos_iff.2 hf.1.1.2, hf.1.2, hf.2⟩

set_option maxRecDepth 100000 in
set_option maxHeartbeats 4000000 in
theorem join_c (A : Option Addr) (c : Nat) (ls : List LineI) (w : World) (h : RawAt w A ls) (hl : ls.length ≤ 8796093021952) (hf : ∀ x ∈ ls, x.2.length ≤ 8796093021952) (hs : ∀ x ∈ ls, ∀ f ∈ x.2, f.length ≤ maxLen) (hn : ∀ x ∈ ls, -9223372036854775808 ≤ x.1 ∧ x.1 ≤ 9223372036854775807) :
    Calls Tryd.prog 21 #[.slice A ls.length c] w (JoinPost w (joinT ls)) := by
  have V := Lib.hid (validLines_c A c ls w h hl hf hs hn)
  have H := Lib.hid h
  have HF := Lib.hid hf
  have HNN := Lib.hid hn
  clear h hf hs hn
  go_enter Tryd.func21, Tryd.ntmps21
  go_wp2_with fail
  refine V.out.mono ?_
  clear V
  rintro e w1 ⟨rfl, hb1⟩
  rcases hv : formed 0 ls with _ | _
  · have HX : Hid (joinT ls = .error 20) := Lib.hid (by unfold joinT; rw [hv]; rfl)
    clear hv
    go_wp2_with fail
    go_ret2
    exact ⟨hb1, by rw [HX.out]; rfl⟩
  · have HX : Hid (joinT ls = joinA 0 [] (ls.drop 0)) := Lib.hid (by unfold joinT; rw [hv]; rfl)
    have HV := Lib.hid hv
    clear hv
    go_wp2_with fail
    have hbn := builderF_new w1
    have hb2 : Below w.heap.size w (w1.alloc (.cells #[.pointer none, .slice none 0 0] 62)) := hb1.alloc hb1.size _
    have hB1 : w.heap.size ≤ w1.heap.size := hb1.size
    have hB2 : w1.heap.size < (w1.alloc (.cells #[.pointer none, .slice none 0 0] 62)).heap.size := by simp
    go_wp2
    generalize w1.alloc (.cells #[.pointer none, .slice none 0 0] 62) = w2 at *
    generalize w1.heap.size = B at *
    clear hb1
    go_loopw [5, 13] (fun la i wr => ∃ (k : Nat) (last : Int) (acc : List UInt8), i = .int .i64 k ∧ la = .int .i64 last ∧ k ≤ ls.length ∧ 0 ≤ last ∧ last ≤ 6000 ∧ acc.length ≤ 6000 ∧ B < wr.heap.size ∧ Below w.heap.size w wr ∧ Hid (Lib.IsBuilderF 62 5 B B (Lib.byteCells acc) wr) ∧ Hid (formed last (ls.drop k) = true) ∧ Hid (joinT ls = joinA last acc (ls.drop k))) (fun _ i _ => ls.length - (intOf i).toNat)
    case atStart => exact ⟨0, 0, [], rfl, rfl, Nat.zero_le _, by omega, by omega, by simp, hB2, hb2, Lib.hid hbn, HV, HX⟩
    case round =>
      obtain ⟨k, last, acc, rfl, rfl, hk, hla0, hla1, hacc, hBr, hb, HB, HFm, HJ⟩ := hrel
      clear hbn hb2 hB2
      by_cases hlt : k < ls.length
      · obtain ⟨b, o, A', c', rfl, e1w, e2w, hcap, hh⟩ := H.out.line hlt
        have e1 := (hb.cell (p := ⟨b, o + k * 2, none⟩) (World.block_lt_of_cell? _ _ e1w)).trans e1w
        have e2 := (hb.cell (p := ⟨b, o + k * 2 + 1, none⟩) (World.block_lt_of_cell? _ _ e2w)).trans e2w
        clear e1w e2w
        have HH := Lib.hid hh
        clear hh
        have hfl := HF.out _ (List.getElem_mem hlt)
        have hnn := HNN.out _ (List.getElem_mem hlt)
        obtain ⟨hgt, hpos, hall, hfm⟩ := formed_facts hlt HFm.out
        have HALL := Lib.hid hall
        have HFM := Lib.hid hfm
        have hjl := join_length_le _ hall
        clear HFm hall hfm
        obtain ⟨hn1, hn2⟩ := hnn
        by_cases hbig : 6000 < ls[k].1
        · have HE := Lib.hid (HJ.out.trans (joinA_num hlt hbig))
          clear HJ HALL HFM HH hjl
          generalize ls[k] = x at *
          go_wp2_with fail
          go_ret2
          exact ⟨hb.alloc hb.size _, by rw [HE.out]; rfl⟩
        · have hsm : ls[k].1 ≤ 6000 := by omega
          obtain ⟨t, ht⟩ : ∃ t, t = acc ++ Lib.repeatL [10] (ls[k].1 - last - 1).toNat ++ Lib.join ls[k].2 [32] ++ [10] := ⟨_, rfl⟩
          have HJ2 : Hid ((6000 < t.length → joinT ls = .error 1) ∧ (t.length ≤ 6000 → joinT ls = joinA ls[k].1 t (ls.drop (k + 1)))) :=
            Lib.hid ⟨fun h => HJ.out.trans (joinA_big hlt hsm ht h), fun h => HJ.out.trans (joinA_step hlt hsm ht h)⟩
          clear HJ hbig
          generalize hx : ls[k] = x at *
          clear hx
          obtain ⟨n, fs⟩ := x
          dsimp only at *
          have HT := Lib.hid ht
          clear ht
          have hrl : (Lib.repeatL [10] (n - last - 1).toNat).length ≤ 6000 := by rw [Lib.repeatL_length]; simp; omega
          -- the line's own block
          have hL0 : (wr.alloc (.cells #[.int .i64 n, .slice A' fs.length c'] 50)).heap[wr.heap.size]? = some (.cells #[.int .i64 n, .slice A' fs.length c'] 50 (0, 0)) := heap_alloc_new wr _
          have HB0 := Lib.hid (builderF_keep HB.out (w' := wr.alloc (.cells #[.int .i64 n, .slice A' fs.length c'] 50)) ((Below.refl _ _).alloc (Nat.le_refl _) _))
          have hbw0 : Below w.heap.size w (wr.alloc (.cells #[.int .i64 n, .slice A' fs.length c'] 50)) := hb.alloc hb.size _
          have HL0 := Lib.hid hL0
          have hsz0 : wr.heap.size < (wr.alloc (.cells #[.int .i64 n, .slice A' fs.length c'] 50)).heap.size := by simp
          clear hL0 HB
          go_wp2_with fail
          generalize wr.alloc (.cells #[.int .i64 n, .slice A' fs.length c'] 50) = W0 at *
          have hLB : B ≠ wr.heap.size := by omega
          have hBL : B ≤ wr.heap.size := by omega
          generalize wr.heap.size = L at *
          clear hb e1 e2
          -- the line feeds
          refine (repeat_c _ W0 (by omega) (by omega)).mono ?_
          rintro e w4 ⟨rfl, hb4⟩
          have HB4 := Lib.hid (builderF_keep HB0.out hb4)
          have HL4 := Lib.hid ((hb4.block L hsz0).trans HL0.out)
          have hbw4 := below_later hbw0 hb4
          have hsz4 : L < w4.heap.size := by have := hb4.size; omega
          clear HB0 HL0 hb4 hsz0 hbw0
          generalize Lib.repeatL [10] (n - last - 1).toNat = rp at *
          go_wp2_with fail
          refine (writeString_c B B acc rp w4 HB4.out (by omega) (by omega)).mono ?_
          rintro e w5 ⟨m5, rfl, hB5, hb5, ho5⟩
          have HB5 := Lib.hid hB5
          have HL5 := Lib.hid (others_block ho5 HL4.out (fun e => by injection e with e; exact hLB e.symm) (by decide))
          have hbw5 := hbw4.trans (hb5.mono hB1)
          have hsz5 : L < w5.heap.size := by have := hb5.size; omega
          have hc51 : w5.cell? ⟨L, 1, none⟩ = some (.slice A' fs.length c') := by rw [cell_of_row w5 L 1 _ _ (0, 0) HL5.out]; rfl
          have hH5 := HH.out.keep hbw5
          clear HB4 HL4 hB5 hb5 ho5 hbw4 HH
          go_wp2_with fail
          refine (joinS_c fs A' c' w5 hH5 hpos hcap (by omega) (by omega)).mono ?_
          rintro e w6 ⟨rfl, hb6⟩
          have HB6 := Lib.hid (builderF_keep HB5.out hb6)
          have HL6 := Lib.hid ((hb6.block L hsz5).trans HL5.out)
          have hbw6 := below_later hbw5 hb6
          have hsz6 : L < w6.heap.size := by have := hb6.size; omega
          generalize Lib.join fs [32] = jn at *
          have hlen1 : (acc ++ rp).length ≤ 12000 := by simp; omega
          clear HB5 HL5 hb6 hsz5 hbw5 hH5 hc51 hsz4
          go_wp2_with fail
          refine (writeString_c B B (acc ++ rp) jn w6 HB6.out (by omega) (by omega)).mono ?_
          rintro e w7 ⟨m7, rfl, hB7, hb7, ho7⟩
          have HB7 := Lib.hid hB7
          have HL7 := Lib.hid (others_block ho7 HL6.out (fun e => by injection e with e; exact hLB e.symm) (by decide))
          have hbw7 := hbw6.trans (hb7.mono hB1)
          have hsz7 : L < w7.heap.size := by have := hb7.size; omega
          have hlen2 : (acc ++ rp ++ jn).length ≤ 12000 + jn.length := by simp; omega
          clear HB6 HL6 hB7 hb7 ho7 hbw6 hsz6
          go_wp2_with fail
          refine (writeByte_c B B (acc ++ rp ++ jn) w7 HB7.out (by omega) (by omega)).mono ?_
          rintro e w8 ⟨rfl, hB8, hb8, ho8⟩
          have hT8 : acc ++ rp ++ jn ++ [10] = t := by rw [HT.out]
          rw [hT8] at hB8
          have HB8 := Lib.hid hB8
          have HL8 := others_block ho8 HL7.out (fun e => by injection e with e; exact hLB e.symm) (by decide)
          have hc80 : w8.cell? ⟨L, 0, none⟩ = some (.int .i64 n) := by rw [cell_of_row w8 L 0 _ _ (0, 0) HL8]; rfl
          have hbw8 := hbw7.trans (hb8.mono hB1)
          have hsz8 : L < w8.heap.size := by have := hb8.size; omega
          have htl : t.length ≤ 12001 + jn.length := by rw [← hT8]; simp at hlen2 ⊢; omega
          clear HB7 HL7 hB8 hb8 ho8 hbw7 hsz7 HL8 hT8 hlen1 hlen2
          go_wp2_with fail
          refine (len_c B B t w8 HB8.out).mono ?_
          rintro e w9 ⟨rfl, rfl⟩
          by_cases htb : 6000 < t.length
          · have HE := Lib.hid (HJ2.out.1 htb)
            go_wp2_with fail
            go_ret2
            exact ⟨hbw8, by rw [HE.out]; rfl⟩
          · have HE := Lib.hid (HJ2.out.2 (by omega))
            have hts : t.length ≤ 6000 := by omega
            clear htb HJ2
            go_wp2_with fail
            go_roundw
            case rel => exact ⟨k + 1, n, t, by go_num, rfl, by omega, by omega, by omega, hts, by omega, hbw8, HB8, HFM, HE⟩
            case measure => simp [intOf]; omega
      · have HE := Lib.hid (HJ.out.trans (joinA_end (by omega)))
        clear HJ HFm
        go_wp2_with fail
        refine (string_c B B acc _ HB.out (by omega)).mono ?_
        rintro e w3 ⟨rfl, hb3⟩
        go_wp2_with fail
        go_ret2
        exact ⟨hb.trans (hb3.mono hB1), by rw [HE.out]; rfl⟩
end Go.Proofs.YtngapogkhpnieaaDoor

/- Contract of netmap's distinctNames, for valid networks: a map of all names has as many keys as there are names. -/
import Derived.Test.YtcpoojlhfebcmaaDoorNtNames
import Derived.Maps.Own
import Derived.Maps.OwnSet
import Derived.Maps.Views
namespace Go.Proofs.YtcpoojlhfebcmaaDoor
open Go Go.RowKit Fl

abbrev MapB (w : World) (M n : Nat) (D : DataW Unit) : Prop := w.ownsMap Tryd.prog 9 (plainElem Tryd.prog 4) M n D
theorem str_keyed : Maps.Keyed Tryd.prog 9 := Maps.string_keyed Tryd.underlying9
theorem key_str (s : List UInt8) (h : s.length ≤ 12) : keyOf Tryd.prog 9 (.string ⟨s.toArray⟩) = some (.string s) := by
  have h1 : (⟨s.toArray⟩ : ByteArray).size ≤ maxLen := by
    show s.toArray.size ≤ maxLen
    unfold maxLen
    simp
    omega
  simp [keyOf, mapKey, Tryd.underlying9, h1]
theorem val_true : plainElem (H := Unit) Tryd.prog 4 (.bool true) = some (.lit (.bool true), []) := by
  unfold plainElem
  rw [Tryd.underlying4]
/-- The map's keys are the first i names. -/
def KeysAre (L : List (List UInt8)) (i : Nat) (D : DataW Unit) : Prop := Maps.size D = i ∧ ∀ s, s ∉ L.take i → Maps.has D (.string s) = false
theorem KeysAre.step {L : List (List UInt8)} {i : Nat} {D : DataW Unit} (hn : L.Nodup) (hi : i < L.length) (ht : Maps.Tidy D) (h : KeysAre L i D) (d : DataW Unit) : KeysAre L (i + 1) (D.put (.string L[i]) d) := by
  have hnot : L[i] ∉ L.take i := fun hm => by
    obtain ⟨j, hj, e⟩ := List.mem_iff_getElem.1 hm
    rw [List.getElem_take] at e
    rw [List.length_take] at hj
    have h1 := List.pairwise_iff_getElem.1 hn j i (by omega) hi (by omega)
    exact h1 e
  refine ⟨?_, fun s hs => ?_⟩
  · rw [Maps.size_put ht, h.2 _ hnot, h.1]
    rfl
  · rw [List.take_succ_eq_append_getElem hi] at hs
    have h1 : s ∉ L.take i := fun h => hs (List.mem_append_left _ h)
    have h2 : s ≠ L[i] := fun h => hs (List.mem_append_right _ (by rw [h]; simp))
    rw [Maps.has_put_other (fun e => h2 (by injection e))]
    exact h.2 s h1
theorem names_block {N : NetD} {k : Nat} (h : k < N.blocks.length) : ∃ (h' : k < (namesN N).length), (namesN N)[k] = N.blocks[k].name :=
  ⟨by simp [namesN]; omega, by simp [namesN, h]⟩
theorem names_spur {N : NetD} {k : Nat} (h : k < N.spurs.length) : ∃ (h' : N.blocks.length + k < (namesN N).length), (namesN N)[N.blocks.length + k] = N.spurs[k].name :=
  ⟨by simp [namesN]; omega, by simp [namesN]⟩
theorem names_len2 (N : NetD) : (namesN N).length = N.blocks.length + N.spurs.length := by simp [namesN]
set_option maxRecDepth 100000 in
set_option maxHeartbeats 8000000 in
theorem distinct_c (Ab An As Ar : Option Addr) (cb cn cs cr : Nat) (N : NetD) (w : World) (hN : NetAt w Ab An As Ar N) (hok : NetOk N) :
    Calls Tryd.prog 52 #[.agg #[.slice Ab N.blocks.length cb, .slice An N.next.length cn, .slice As N.spurs.length cs, .slice Ar N.robots.length cr, Iv N.queue, Iv N.aging, Iv N.detours, Iv N.patience]] w fun e w' => e = .returned (.bool true) ∧ Below w.heap.size w w' := by
  have HBl := Lib.hid hN.blocks
  have HSp := Lib.hid hN.spurs
  have HOk := Lib.hid hok
  have h24 := hok.few
  have h6 := hok.spurs6
  have HNm := Lib.hid hok.apart
  have HNl := Lib.hid (names_len2 N)
  have HSh : Hid (∀ s ∈ namesN N, s.length ≤ 12) := Lib.hid (fun s hs => name_short (hok.named s hs))
  have hb0 : Below w.heap.size w ((w.alloc (.cells (netCells Ab An As Ar cb cn cs cr N) 29)).alloc (.map #[] 0)) := ((Below.refl _ _).alloc (Nat.le_refl _) _).alloc (by simp) _
  have HB0 := Lib.hid hb0
  have s1 : (w.alloc (.cells (netCells Ab An As Ar cb cn cs cr N) 29)).heap.size = w.heap.size + 1 := by simp
  have HX0 : Hid (((w.alloc (.cells (netCells Ab An As Ar cb cn cs cr N) 29)).alloc (.map #[] 0)).heap[w.heap.size]? = some (.cells (netCells Ab An As Ar cb cn cs cr N) 29 (0, 0))) := Lib.hid ((Below.heap_alloc _ _ _ (by rw [s1]; omega)).trans (heap_alloc_new w _))
  have HM0 : Hid (MapB ((w.alloc (.cells (netCells Ab An As Ar cb cn cs cr N) 29)).alloc (.map #[] 0)) (w.heap.size + 1) 0 (.map [])) := Lib.hid (by
    have h := World.ownsMap_made (w.alloc (.cells (netCells Ab An As Ar cb cn cs cr N) 29)) Tryd.prog 9 (plainElem (H := Unit) Tryd.prog 4)
    rw [s1] at h
    exact h)
  obtain ⟨x0, _, x2, _⟩ := boxAt_of HX0.out
  clear hN hok hb0 s1
  have hmm := @run_makeMap Tryd.prog
  go_enter Tryd.func52, Tryd.ntmps52
  go_wp2
  go_loopw [12] (fun i wr => ∃ (k : Nat) (D : DataW Unit), i = .int .i64 k ∧ k ≤ N.blocks.length ∧ Hid (KeysAre (namesN N) k D) ∧ Hid (MapB wr (w.heap.size + 1) k D) ∧ Hid (Below w.heap.size w wr) ∧ Hid (wr.heap[w.heap.size]? = some (.cells (netCells Ab An As Ar cb cn cs cr N) 29 (0, 0)))) (fun i _ => N.blocks.length - (intOf i).toNat)
  case atStart => exact ⟨0, .map [], rfl, Nat.zero_le _, Lib.hid ⟨rfl, fun s _ => rfl⟩, HM0, HB0, HX0⟩
  case round =>
    clear HM0 HB0 HX0
    obtain ⟨k, D, rfl, hk, HK, HM, HB, HX⟩ := hrel
    by_cases hlt : k < N.blocks.length
    · obtain ⟨b, o, rfl, hbl, hs⟩ := HBl.out.block hlt
      obtain ⟨c0, c1, c2⟩ := hs.keep hbl HB.out
      obtain ⟨hl, he⟩ := names_block (N := N) hlt
      have HK2 := Lib.hid (HK.out.step HNm.out hl (HM.out.tidy str_keyed) (.lit (.bool true)))
      have hsh := HSh.out _ (List.getElem_mem hl)
      rw [he] at HK2 hsh
      have hbz := HB.out.size
      clear hs he hl HK
      generalize N.blocks[k] = s at *
      obtain ⟨nm, xx, yy⟩ := s
      simp only at c0 c1 c2 HK2 hsh
      have HMa : Hid (∀ ob, MapB (wr.alloc ob) (w.heap.size + 1) k D) := Lib.hid (fun ob => HM.out.alloc ob)
      have hkey := Lib.hid (key_str nm hsh)
      go_wp2_with (at_mapUpdate; refine wpList_mapUpdate_own _ rfl _ _ _ 96 rfl 9 4 str_keyed Tryd.underlying96 (plainElem Tryd.prog 4) (w.heap.size + 1) k D rfl (HMa.out _) (by unfold maxLen; omega) _ _ (.string nm) rfl rfl hkey.out (.lit (.bool true)) [] val_true ?_)
      intro w1 hown hgrow
      have HM1 := Lib.hid hown
      have HB1 : Hid (Below w.heap.size w w1) := Lib.hid ((HB.out.alloc hbz _).grown hgrow (by simp; omega) (fun j hj => by injection hj with hj; omega))
      have HX1 : Hid (w1.heap[w.heap.size]? = some (.cells (netCells _ _ _ _ _ _ _ _ N) 29 (0, 0))) := Lib.hid ((hgrow.block _ (by simp; omega) (fun e => by injection e with e; omega)).trans ((Below.heap_alloc _ _ _ (by have := block_lt HX.out; omega)).trans HX.out))
      clear hown hgrow HM HB HX HMa
      go_wp2
      go_roundw
      case rel => exact ⟨k + 1, _, by go_num, by omega, HK2, HM1, HB1, HX1⟩
      case measure => simp [intOf]; omega
    · obtain rfl : k = N.blocks.length := by omega
      clear hlt hk
      obtain ⟨x0, _, x2, _⟩ := boxAt_of HX.out
      go_wp2
      go_loopw [23] (fun i wr => ∃ (k : Nat) (D : DataW Unit), i = .int .i64 k ∧ k ≤ N.spurs.length ∧ Hid (KeysAre (namesN N) (N.blocks.length + k) D) ∧ Hid (MapB wr (w.heap.size + 1) (N.blocks.length + k) D) ∧ Hid (Below w.heap.size w wr) ∧ Hid (wr.heap[w.heap.size]? = some (.cells (netCells Ab An As Ar cb cn cs cr N) 29 (0, 0)))) (fun i _ => N.spurs.length - (intOf i).toNat)
      case atStart => exact ⟨0, D, rfl, Nat.zero_le _, HK, HM, HB, HX⟩
      case round =>
        clear HM HB HX HK x0 x2
        clear D
        obtain ⟨k, D, rfl, hk, HK, HM, HB, HX⟩ := hrel
        by_cases hlt : k < N.spurs.length
        · obtain ⟨b, o, rfl, hbl, hs⟩ := HSp.out.spur hlt
          obtain ⟨c0, c1, c2, c3, c4, c5⟩ := hs.keep hbl HB.out
          obtain ⟨hl, he⟩ := names_spur (N := N) hlt
          have HK2 := Lib.hid (HK.out.step HNm.out hl (HM.out.tidy str_keyed) (.lit (.bool true)))
          have hsh := HSh.out _ (List.getElem_mem hl)
          rw [he] at HK2 hsh
          have hbz := HB.out.size
          clear hs he hl HK
          generalize N.spurs[k] = s at *
          obtain ⟨nm, dp, si, so, sw, sb⟩ := s
          simp only at c0 c1 c2 c3 c4 c5 HK2 hsh
          have HMa : Hid (∀ ob, MapB (wr.alloc ob) (w.heap.size + 1) (N.blocks.length + k) D) := Lib.hid (fun ob => HM.out.alloc ob)
          have hkey := Lib.hid (key_str nm hsh)
          go_wp2_with (at_mapUpdate; refine wpList_mapUpdate_own _ rfl _ _ _ 96 rfl 9 4 str_keyed Tryd.underlying96 (plainElem Tryd.prog 4) (w.heap.size + 1) (N.blocks.length + k) D rfl (HMa.out _) (by unfold maxLen; omega) _ _ (.string nm) rfl rfl hkey.out (.lit (.bool true)) [] val_true ?_)
          intro w1 hown hgrow
          have HM1 := Lib.hid hown
          have HB1 : Hid (Below w.heap.size w w1) := Lib.hid ((HB.out.alloc hbz _).grown hgrow (by simp; omega) (fun j hj => by injection hj with hj; omega))
          have HX1 : Hid (w1.heap[w.heap.size]? = some (.cells (netCells _ _ _ _ _ _ _ _ N) 29 (0, 0))) := Lib.hid ((hgrow.block _ (by simp; omega) (fun e => by injection e with e; omega)).trans ((Below.heap_alloc _ _ _ (by have := block_lt HX.out; omega)).trans HX.out))
          clear hown hgrow HM HB HX HMa
          go_wp2
          go_roundw
          case rel => exact ⟨k + 1, _, by go_num, by omega, HK2, HM1, HB1, HX1⟩
          case measure => simp [intOf]; omega
        · obtain rfl : k = N.spurs.length := by omega
          clear hlt hk
          obtain ⟨x0, _, x2, _⟩ := boxAt_of HX.out
          have hsz := HK.out.1
          have hww : IntKind.i64.wrap ((N.blocks.length : Int) + (N.spurs.length : Int)) = (N.blocks.length : Int) + (N.spurs.length : Int) := IntWalk.i64_in _ (by omega)
          go_wp2_with (at_len; refine wpList_len_own _ rfl _ 96 rfl 9 4 Tryd.underlying96 (plainElem Tryd.prog 4) (w.heap.size + 1) _ D rfl HM.out ?_)
          go_ret
          exact ⟨gr_bool (by first | rfl | (simp; done) | (simp [hsz]; done) | (simp [hsz]; omega)), HB.out⟩
end Go.Proofs.YtcpoojlhfebcmaaDoor

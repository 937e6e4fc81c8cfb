/- Contracts of seenFirst and of slices.Repeat at one number. -/
import Derived.Test.YtcfnilemikenhaaCdMem
import Derived.Test.YtcfnilemikenhaaRdFrom
import Derived.Laws.CopyOwn
import Derived.Test.YtcfnilemikenhaaShelf
import Derived.Deep.RegionHeld3
namespace Go.Proofs.Ytcfnilemikenhaa
open Go Go.RowKit Fl

abbrev Z24b : Array Value := #[.bool false, .bool false, .bool false, .bool false, .bool false, .bool false, .bool false, .bool false, .bool false, .bool false, .bool false, .bool false, .bool false, .bool false, .bool false, .bool false, .bool false, .bool false, .bool false, .bool false, .bool false, .bool false, .bool false, .bool false]
theorem ArrC.row {w : World} {G : Nat} {t : TypeId} {l l' : List Value} (h : ArrC w G t l) : ArrC (w.setRow G l'.toArray) G t l' := setRow_heap w G _ _ _ _ h
theorem ArrC.rowOther {w : World} {G H : Nat} {t : TypeId} {l : List Value} {c : Array Value} (h : ArrC w G t l) (hn : G ≠ H) : ArrC (w.setRow H c) G t l := h.same (setRow_other w H G c hn)
theorem bools_one (l : List Bool) : (l.map Bo).toArray.all (·.oneCell') = true := cellsM_one l
section
variable {ops : Array Oper} {rest : List Oper} {o : Oper} {a : Act} {w : World} {Q : Exit → Act → World → Prop}
end
theorem pad_splice (s : List Bool) : splice (List.replicate 24 (Value.bool false)) 0 (s.map Bo) = (padM s).map Bo := by
  unfold splice padM
  rw [List.take_zero, List.drop_replicate]
  simp
theorem atB_pad {s : List Bool} (x : Nat) : atB (padM s) x = atB s x := by
  unfold atB padM
  rw [List.getD_eq_getElem?_getD, List.getD_eq_getElem?_getD, List.getElem?_append]
  split
  · rfl
  · rename_i h
    rw [List.getElem?_eq_none (l := s) (by omega), List.getElem?_replicate]
    split <;> rfl
end Go.Proofs.Ytcfnilemikenhaa
namespace Go.Proofs.Ytcfnilemikenhaa
open Go Go.RowKit Fl

/-- A row of n whose first k are filled. -/
def fillL (n k : Nat) : List Value := List.replicate k (.int .i64 (-1)) ++ List.replicate (n - k) (.int .i64 0)
theorem fillL_length {n k : Nat} (h : k ≤ n) : (fillL n k).length = n := by simp [fillL]; omega
theorem fillL_zero (n : Nat) : fillL n 0 = List.replicate n (.int .i64 0) := by simp [fillL]
theorem fillL_all (n : Nat) : fillL n n = List.replicate n (.int .i64 (-1)) := by simp [fillL]
theorem fillL_splice {n k m : Nat} (hk : k + m ≤ n) : splice (fillL n k) k (List.replicate m (Value.int .i64 (-1))) = fillL n (k + m) := by
  unfold splice fillL
  rw [List.take_append_of_le_length (by simp), List.take_of_length_le (by simp), List.length_replicate, List.drop_append, List.drop_of_length_le (by simp), List.drop_replicate, List.nil_append, List.length_replicate, ← List.append_assoc, List.replicate_append_replicate]
  congr 2
  omega
theorem fillL_at {n k j : Nat} (h : j < k) : (fillL n k)[j]? = some (.int .i64 (-1)) := by
  unfold fillL
  rw [List.getElem?_append_left (by simpa using h), List.getElem?_replicate, if_pos h]
theorem fill_src {wr W : World} {q n k m : Nat} (h : ArrC wr q 3 (fillL n k)) (hm : m ≤ k) (hW : W.heap = wr.heap) : 0 < (List.replicate m (Value.int .i64 (-1))).length → (some (⟨q, k, none⟩ : Addr)) = some ⟨q, k, none⟩ ∧ ∃ ad, (some (⟨q, 0, none⟩ : Addr)) = some ad ∧ ∀ j v, (List.replicate m (Value.int .i64 (-1)))[j]? = some v → W.cell? (ad.add j) = some v := fun _ => ⟨rfl, _, rfl, fun j v hv => by
  rw [List.getElem?_replicate] at hv
  split at hv
  · injection hv with hv
    rename_i hj
    have h := (h.cell (fillL_at (n := n) (k := k) (j := j) (by omega))).1
    rw [Addr.add_mid, Nat.zero_add, ← hv, ← h]
    simp [World.cell?, hW]
  · cases hv⟩
set_option maxRecDepth 100000 in
set_option maxHeartbeats 4000000 in
theorem repeat_c (b n : Nat) (w : World) (hc : w.cell? ⟨b, 0, none⟩ = some (.int .i64 (-1))) (hn : n ≤ 24) :
    Calls Try.prog 42 #[.slice (some ⟨b, 0, none⟩) 1 1, .int .i64 n] w fun e w' => e = .returned (.slice (some ⟨w.heap.size, 0, none⟩) n n) ∧ w'.ownsRow w.heap.size 3 1 (.slice (some ⟨w.heap.size, 0, none⟩) n n) n (List.replicate n (.int .i64 (-1))) ∧ Below w.heap.size w w' := by
  have CM := Lib.hid (Try.bits_Mul 1 n (by omega) (by omega) w)
  rw [show 1 * n / 18446744073709551616 = 0 by omega, show 1 * n % 18446744073709551616 = n by omega] at CM
  have hu := Try.underlying25
  have hbw : b < w.heap.size := World.block_lt_of_cell? _ _ hc
  obtain ⟨i0, hi, hz0, hz1, hz2⟩ := info_parts Try.infoIntG
  have hszI : (Try.prog.info? 3).map (·.size) = some 1 := by rw [hi]; simp [hz1]
  have HC := Lib.hid hc
  clear hc
  go_enter Try.func42, Try.ntmps42
  go_wp2_with fail
  refine CM.out.mono ?_
  rintro e w1 ⟨rfl, rfl⟩
  clear CM
  go_wp2_with (refine make_any _ rfl _ _ 25 3 (.int .i64 0) 8 Try.underlying25 Try.infoIntG rfl (by decide) rfl .i64 .i64 _ _ n rfl rfl rfl rfl (by omega) ?_)
  intro w2 own2 hb2
  obtain ⟨q, hq⟩ : ∃ q, w1.heap.size = q := ⟨_, rfl⟩
  have HQ := Lib.hid hq
  rw [hq] at own2 hb2 hbw ⊢
  have h0 : ArrC w2 q 3 (fillL n 0) := by
    obtain ⟨_, hr⟩ := own2
    rcases hr with ⟨hv, _⟩ | ⟨g, cap, cur, hv, _, hh, hnc, _, hcs, hx⟩
    · cases hv
    · injection hv with hA _ hcap
      injection hA with hA
      injection hA with hA
      subst hA hcap
      unfold ArrC
      rw [hh, fillL_zero, ← hx, List.take_of_length_le (by simp; omega), Array.toArray_toList]
  have H0 := Lib.hid h0
  have HB2 := Lib.hid hb2
  have hC2 := (hb2.cell (p := ⟨b, 0, none⟩) hbw).trans HC.out
  obtain ⟨m0, hm0⟩ : ∃ m0, m0 = Nat.min 1 n := ⟨_, rfl⟩
  have hmn : m0 ≤ n := by rw [hm0]; exact Nat.min_le_right _ _
  have hm1 : m0 ≤ 1 := by rw [hm0]; exact Nat.min_le_left _ _
  have hmp : n = 0 ∨ 0 < m0 := by
    rcases Nat.eq_zero_or_pos n with h | h
    · exact .inl h
    · right; rw [hm0]; exact Nat.lt_min.2 ⟨by omega, h⟩
  have HLen : Hid ((List.replicate m0 (Value.int .i64 (-1))).length = Nat.min 1 n) := Lib.hid (by rw [List.length_replicate]; exact hm0)
  have HPos : Hid (0 < (List.replicate m0 (Value.int .i64 (-1))).length → (some (⟨q, 0, none⟩ : Addr)) = some ⟨q, 0, none⟩ ∧ ∃ ad, (some (⟨b, 0, none⟩ : Addr)) = some ad ∧ ∀ j v, (List.replicate m0 (Value.int .i64 (-1)))[j]? = some v → w2.cell? (ad.add j) = some v) := Lib.hid (fun _ => ⟨rfl, _, rfl, fun j v hv => by
    rw [List.getElem?_replicate] at hv
    split at hv
    · injection hv with hv
      obtain rfl : j = 0 := by omega
      rw [← hv]
      simpa [Addr.add] using hC2
    · cases hv⟩)
  have HFit : Hid (0 + (List.replicate m0 (Value.int .i64 (-1))).length ≤ (fillL n 0).length) := Lib.hid (by rw [fillL_length (Nat.zero_le _), List.length_replicate]; omega)
  have HOne : Hid (∀ m, ∀ v ∈ List.replicate m (Value.int .i64 (-1)), v.oneCell' = true) := Lib.hid (fun m v hv => by rw [(List.mem_replicate.1 hv).2]; rfl)
  clear own2 hb2 h0 hC2 hm0 hq
  go_wp2_with (refine wpList_copy_splice rfl _ _ _ _ (by rfl) 3 hu hszI (some ⟨q, 0, none⟩) (some ⟨b, 0, none⟩) n n 1 1 (by rfl) (by rfl) q 0 (fillL n 0) 3 H0.out (List.replicate m0 (.int .i64 (-1))) HLen.out HPos.out HFit.out (HOne.out _) q w2 (Below.refl _ _) (Nat.le_refl _) ?_)
  intro w3 hm hb3
  have H3 : Hid (ArrC w3 q 3 (fillL n m0)) := Lib.hid (by
    have e := fillL_splice (n := n) (k := 0) (m := m0) (by omega)
    rw [Nat.zero_add] at e
    rw [← e]
    exact hm.out)
  have HB3 := Lib.hid (HB2.out.trans hb3)
  clear hm hb3 H0 HB2 HLen HPos HFit
  go_wp2
  go_loopw [8] (fun kv wr => ∃ k : Nat, kv = .int .i64 k ∧ k ≤ n ∧ (n = 0 ∨ 0 < k) ∧ Hid (ArrC wr q 3 (fillL n k)) ∧ Hid (Below q w1 wr)) (fun kv _ => n - (intOf kv).toNat)
  case atStart => exact ⟨m0, by simp, hmn, hmp, H3, HB3⟩
  case round =>
    clear H3 HB3 hmn hm1 hmp
    obtain ⟨k, rfl, hk, hkp, HR, HB⟩ := hrel
    by_cases hlt : k < n
    · have hk0 : 0 < k := by omega
      obtain ⟨m, hm⟩ : ∃ m, m = Nat.min k (n - k) := ⟨_, rfl⟩
      have hm1 : m ≤ k := by rw [hm]; exact Nat.min_le_left _ _
      have hm2 : m ≤ n - k := by rw [hm]; exact Nat.min_le_right _ _
      have hm3 : 0 < m := by rw [hm]; exact Nat.lt_min.2 ⟨hk0, by omega⟩
      have HLen : Hid ((List.replicate m (Value.int .i64 (-1))).length = Nat.min k (n - k)) := Lib.hid (by rw [List.length_replicate]; exact hm)
      have HFit : Hid (k + (List.replicate m (Value.int .i64 (-1))).length ≤ (fillL n k).length) := Lib.hid (by rw [fillL_length hk, List.length_replicate]; omega)
      have hkn : ¬ n = k := by omega
      have hnk : ¬ k = n := by omega
      clear hm
      go_wp2
      have e0 := (HR.out.cell (fillL_at (n := n) (k := k) (j := 0) hk0)).1
      have hm1' : k + m ≤ n := by omega
      have hw1 : IntKind.i64.wrap ((k : Int) + (m : Int)) = (k : Int) + (m : Int) := IntWalk.i64_in _ ⟨by omega, by omega⟩
      go_region_held3 (fun W => W.cell? ⟨q, 0, none⟩ = some (.int .i64 (-1))) (first | exact e0 | exact e4) (first | (refine step_copy_splice rfl _ _ _ _ rfl 3 hu hszI (some ⟨q, k, none⟩) (some ⟨q, 0, none⟩) (n - k) (n - k) k n (by rfl) (by rfl) q k (fillL n k) 3 HR.out (List.replicate m (.int .i64 (-1))) HLen.out (fill_src HR.out hm1 rfl) HFit.out (HOne.out _) q w1 (HB.out.drew) (Nat.le_refl _) ?_; intro w4 hm4 hb4; have HM4 : Hid (ArrC w4 q 3 (fillL n (k + m))) := Lib.hid (by rw [← fillL_splice hm1']; exact hm4.out); have HB4 := Lib.hid hb4; have e4 := (HM4.out.cell (fillL_at (n := n) (k := k + m) (j := 0) (by omega))).1; clear hm4 hb4))
      go_wp2
      go_roundw
      case rel => exact ⟨k + m, by go_num, by omega, .inr (by omega), HM4, HB4⟩
      case measure => simp [intOf]; omega
    · obtain rfl : k = n := by omega
      go_wp2
      go_ret
      rw [HQ.out]
      refine ⟨rfl, ⟨by simp, .inr ⟨q, k, (fillL k k).toArray, rfl, Nat.le_refl _, HR.out, Nat.le_refl _, by unfold maxLen; omega, by simp [fillL_length], ?_⟩⟩, HB.out⟩
      rw [fillL_all]
      simp
end Go.Proofs.Ytcfnilemikenhaa

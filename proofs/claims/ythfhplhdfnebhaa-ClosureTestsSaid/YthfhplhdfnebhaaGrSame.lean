/- Contracts of the statements' Shut, and of SameInts, SameBools and SameLists on what is the same. -/
import Derived.Test.YthfhplhdfnebhaaGrMade
namespace Go.Proofs.Ythfhplhdfnebhaa
open Go Go.RowKit Fl

theorem Try.infoBoolS : (Try.prog.info? 4).map (fun i => (i.zero, i.size, i.bytes)) = some (some (.bool false), 1, 1) := by kernel_rfl
theorem own_but {w w' : World} {base q n : Nat} {e : TypeId} {v : Value} {xs : List Value} (h : w.ownsRow base e 1 v n xs) (hw : w.grownBy w' (some q)) (hq : q < base) : w'.ownsRow base e 1 v n xs := by
  obtain ⟨h1, hr⟩ := h
  refine ⟨h1, ?_⟩
  rcases hr with hr | ⟨b, cap, cur, hv, hgb, hh, hrest⟩
  · exact .inl hr
  · exact .inr ⟨b, cap, cur, hv, hgb, (hw.block b (block_lt hh) (fun e => by injection e with e; omega)).trans hh, hrest⟩
/-- What Shut returns. -/
def ShutPost (w : World) (B gt T n : Nat) (e : Ending) (w' : World) : Prop := ∃ (v : Value) (s : List Bool), e = .returned v ∧ s.length = n ∧ w'.ownsRow w.heap.size 4 1 v n (s.map Bo) ∧ TapeOk w' B gt (T + 1000) ∧ Still gt w.heap.size w w'
set_option maxRecDepth 100000 in
set_option maxHeartbeats 4000000 in
theorem shut_c (B gt T n : Nat) (w : World) (ht : TapeOk w B gt T) (hT : T ≤ 1000000) (hn : n ≤ 100) (hgt : gt < w.heap.size) :
    Calls Try.prog 6 #[.pointer (some ⟨gt, 0, none⟩), .int .i64 n] w (ShutPost w B gt T n) := by
  have HT := Lib.hid ht
  have hBg : B ≤ gt := by obtain ⟨_, _, _, _, _, _, _, _, h, _⟩ := ht; exact h
  clear ht
  go_enter Try.func6, Try.ntmps6
  go_wp2_with (refine make_any _ rfl _ _ 30 4 (.bool false) 1 Try.underlying30 Try.infoBoolS rfl (by decide) rfl .i64 .i64 _ _ n rfl rfl rfl rfl (by omega) ?_)
  intro w1 own1 hb1
  have HO1 : Hid (w1.ownsRow w.heap.size 4 1 (.slice (some ⟨w.heap.size, 0, none⟩) n n) n ((List.replicate n false).map Bo)) := Lib.hid (by rw [List.map_replicate]; exact own1)
  have HT1 := Lib.hid (HT.out.keep hb1)
  have HS1 : Hid (Still gt w.heap.size w w1) := Lib.hid (Still.of_below hb1)
  have hsz1 : w.heap.size < w1.heap.size := own_blk own1
  clear own1 hb1 HT
  go_wp2_with fail
  refine (next_c B gt _ 3 w1 HT1.out (by omega) (by omega) (by omega)).mono ?_
  rintro e w2 ⟨k0, hk0, rfl, ht2, hg2⟩
  have HO2 := Lib.hid (own_but HO1.out hg2 hgt)
  have HT2 := Lib.hid ht2
  have HS2 := Lib.hid (HS1.out.trans (Still.of_grown hg2 (by omega)))
  have hsz2 : w.heap.size < w2.heap.size := Nat.lt_of_lt_of_le hsz1 hg2.size
  clear HT1 HS1 HO1 ht2 hg2 hsz1
  go_wp2
  go_loopw [6] (fun v wr => ∃ (k i : Nat) (s : List Bool), v = .int .i64 k ∧ k + i = k0 ∧ s.length = n ∧ Hid (wr.ownsRow w.heap.size 4 1 (.slice (some ⟨w.heap.size, 0, none⟩) n n) n (s.map Bo)) ∧ Hid (TapeOk wr B gt (T + 1 + i)) ∧ Hid (Still gt w.heap.size w wr) ∧ w.heap.size < wr.heap.size) (fun v _ => (intOf v).toNat)
  case atStart => exact ⟨k0, 0, _, rfl, rfl, by simp, HO2, HT2, HS2, hsz2⟩
  case round =>
    clear HO2 HT2 HS2 hsz2
    obtain ⟨k, i, s, rfl, hki, hsl, HO, HT, HS, hsz⟩ := hrel
    by_cases hgo : 0 < k ∧ 0 < n
    · obtain ⟨hk, hn0⟩ := hgo
      go_wp2_with fail
      refine (next_c B gt _ n wr HT.out (by omega) (by omega) (by omega)).mono ?_
      rintro e w4 ⟨v, hv, rfl, ht4, hg4⟩
      have HO4 := Lib.hid (own_but HO.out hg4 hgt)
      have HS4 := Lib.hid (HS.out.trans (Still.of_grown hg4 (by omega)))
      have hsz4 : w.heap.size < w4.heap.size := Nat.lt_of_lt_of_le hsz hg4.size
      have HT4 := Lib.hid ht4
      clear HT HS HO ht4 hg4 hsz
      have hvn : v < n := by omega
      obtain ⟨cu, c1, c2⟩ : ∃ cu, w4.cell? ⟨w.heap.size, v, none⟩ = some cu ∧ w4.frozen? ⟨w.heap.size, v, none⟩ = false := ⟨_, own_get HO4.out (i := v) (u := Bo s[v]) (by simp [hsl, hvn])⟩
      have HO5 : Hid ((w4.setCell ⟨w.heap.size, v, none⟩ (.bool true)).ownsRow w.heap.size 4 1 (.slice (some ⟨w.heap.size, 0, none⟩) n n) n ((s.set v true).map Bo)) := Lib.hid (by rw [List.map_set]; exact own_put HO4.out)
      have HT5 : Hid (TapeOk (w4.setCell ⟨w.heap.size, v, none⟩ (.bool true)) B gt (T + 1 + (i + 1))) := Lib.hid (HT4.out.grown (row := some w.heap.size) ⟨rfl, rfl, rfl, by simp [World.setCell], fun k _ hne => Below.heap_setCell w4 ⟨w.heap.size, v, none⟩ _ k (fun e => hne (by rw [e]))⟩ (fun e => by injection e with e; omega) (fun b hb => by injection hb with hb; omega))
      have HS5 : Hid (Still gt w.heap.size w (w4.setCell ⟨w.heap.size, v, none⟩ (.bool true))) := Lib.hid (HS4.out.trans (Still.of_below (below_put (Below.refl _ _) (Nat.le_refl _))))
      have hsz5 : w.heap.size < (w4.setCell ⟨w.heap.size, v, none⟩ (.bool true)).heap.size := by simp [World.setCell]; exact hsz4
      clear HT4 HS4 HO4
      go_wp2
      go_roundw
      case rel => exact ⟨k - 1, i + 1, _, by go_num, by omega, by simpa using hsl, HO5, HT5, HS5, hsz5⟩
      case measure => simp [intOf]; omega
    · have hcase : k = 0 ∨ 0 < k ∧ n = 0 := by omega
      clear hgo
      rcases hcase with rfl | ⟨hk, hn0⟩
      · go_wp2
        go_ret
        exact ⟨_, s, rfl, hsl, HO.out, HT.out.more (by omega), HS.out⟩
      · have hd : decide (0 < k) = true := by simpa using hk
        have hn1 : ¬ 0 < n := by omega
        go_wp2
        go_ret
        exact ⟨_, s, rfl, hsl, HO.out, HT.out.more (by omega), HS.out⟩
end Go.Proofs.Ythfhplhdfnebhaa

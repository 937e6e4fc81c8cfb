/- CellsNames returns true. -/
import Derived.Test.YtcpoojlhfebcmaaDoorDcExample
import Derived.Test.YtcpoojlhfebcmaaDoorMjF
import Derived.Test.YtcpoojlhfebcmaaDoorMjH
import Derived.BigQuiet
namespace Go.Proofs.YtcpoojlhfebcmaaDoor
open Go Go.RowKit Fl

/-- The name of a cell. -/
def cellName (N : NetD) (x : Nat) : List UInt8 := if x < N.blocks.length then (N.blocks[x]?.map (·.name)).getD [] else slotName ((N.spurs[(findS N.spurs 0 x).1.toNat]?.map (·.name)).getD []) (findS N.spurs 0 x).2
theorem cellName_block {N : NetD} {x : Nat} (h : x < N.blocks.length) : cellName N x = N.blocks[x].name := by
  unfold cellName
  rw [if_pos h, List.getElem?_eq_getElem h]; rfl
theorem cellName_slot {N : NetD} (hok : NetOk N) {k x : Nat} (hk : k < N.spurs.length) (h1 : N.spurs[k].base ≤ (x : Int)) (h2 : (x : Int) < N.spurs[k].base + N.spurs[k].slots) : cellName N x = slotName N.spurs[k].name ((x : Int) - N.spurs[k].base + 1) := by
  have h3 := hok.base_ge hk
  unfold cellName
  rw [if_neg (by omega), hok.findIn hk h1 h2]
  simp [List.getElem?_eq_getElem hk]
theorem noSlash {s : List UInt8} (h : name s = true) : 47 ∉ s := fun hm => by
  unfold name at h
  rw [Bool.and_eq_true, List.all_eq_true] at h
  have h1 := h.2 47 hm
  revert h1
  decide
theorem cut_slash : ∀ {a b a' b' : List UInt8}, 47 ∉ a → 47 ∉ a' → a ++ 47 :: b = a' ++ 47 :: b' → a = a' ∧ b = b'
  | [], b, [], b', _, _, h => by simpa using h
  | [], b, c :: a', b', _, h2, h => by
    simp only [List.nil_append, List.cons_append, List.cons.injEq] at h
    exact absurd (by simp [h.1]) h2
  | c :: a, b, [], b', h1, _, h => by
    simp only [List.nil_append, List.cons_append, List.cons.injEq] at h
    exact absurd (by simp [← h.1]) h1
  | c :: a, b, c' :: a', b', h1, h2, h => by
    simp only [List.cons_append, List.cons.injEq] at h
    obtain ⟨e1, e2⟩ := cut_slash (fun hm => h1 (List.mem_cons_of_mem _ hm)) (fun hm => h2 (List.mem_cons_of_mem _ hm)) h.2
    exact ⟨by rw [h.1, e1], e2⟩
theorem slotName_inj {a a' : List UInt8} {j j' : Int} (h1 : 47 ∉ a) (h2 : 47 ∉ a') (hj : 1 ≤ j ∧ j ≤ 4) (hj' : 1 ≤ j' ∧ j' ≤ 4) (h : slotName a j = slotName a' j') : a = a' ∧ j = j' := by
  unfold slotName at h
  rw [List.append_assoc, List.append_assoc] at h
  obtain ⟨e1, e2⟩ := cut_slash h1 h2 h
  refine ⟨e1, ?_⟩
  have h3 : j = 1 ∨ j = 2 ∨ j = 3 ∨ j = 4 := by omega
  have h4 : j' = 1 ∨ j' = 2 ∨ j' = 3 ∨ j' = 4 := by omega
  rcases h3 with rfl | rfl | rfl | rfl <;> rcases h4 with rfl | rfl | rfl | rfl <;> first | rfl | (exfalso; revert e2; decide)
theorem NetOk.blockNamed {N : NetD} (hok : NetOk N) {x : Nat} (h : x < N.blocks.length) : name N.blocks[x].name = true := hok.named _ (List.mem_append_left _ (List.mem_map_of_mem (List.getElem_mem h)))
theorem NetOk.spurNamed {N : NetD} (hok : NetOk N) {x : Nat} (h : x < N.spurs.length) : name N.spurs[x].name = true := hok.named _ (List.mem_append_right _ (List.mem_map_of_mem (List.getElem_mem h)))
theorem cellName_some {N : NetD} (hok : NetOk N) {x : Nat} (hx : (x : Int) < cellsN N) : cellName N x ≠ [] := by
  by_cases h : x < N.blocks.length
  · rw [cellName_block h]
    intro e
    have := hok.blockNamed h
    rw [e] at this
    cases this
  · obtain ⟨k, hk, h1, h2⟩ := hok.inSpur (by omega) hx
    rw [cellName_slot hok hk h1 h2]
    unfold slotName
    simp
theorem nodup_at {α : Type} {l : List α} (h : l.Nodup) {i j : Nat} (hi : i < l.length) (hj : j < l.length) (e : l[i] = l[j]) : i = j := by
  rcases Nat.lt_trichotomy i j with h1 | h1 | h1
  · exact absurd e (List.pairwise_iff_getElem.1 h i j hi hj h1)
  · exact h1
  · exact absurd e.symm (List.pairwise_iff_getElem.1 h j i hj hi h1)
/-- Different cells have different names. -/
theorem cellName_apart {N : NetD} (hok : NetOk N) {x y : Nat} (hx : (x : Int) < cellsN N) (hy : (y : Int) < cellsN N) (h : cellName N x = cellName N y) : x = y := by
  have hnd := hok.apart
  unfold namesN at hnd
  rw [List.nodup_append] at hnd
  have slash : ∀ (a : List UInt8) j, 47 ∈ slotName a j := fun a j => by unfold slotName; simp
  by_cases h1 : x < N.blocks.length <;> by_cases h2 : y < N.blocks.length
  · rw [cellName_block h1, cellName_block h2] at h
    exact nodup_at hnd.1 (by simpa using h1) (by simpa using h2) (by simpa using h)
  · obtain ⟨k, hk, g1, g2⟩ := hok.inSpur (by omega) hy
    rw [cellName_block h1, cellName_slot hok hk g1 g2] at h
    exact absurd (h ▸ slash _ _) (noSlash (hok.blockNamed h1))
  · obtain ⟨k, hk, g1, g2⟩ := hok.inSpur (by omega) hx
    rw [cellName_block h2, cellName_slot hok hk g1 g2] at h
    exact absurd (h ▸ slash _ _) (noSlash (hok.blockNamed h2))
  · obtain ⟨k, hk, g1, g2⟩ := hok.inSpur (by omega) hx
    obtain ⟨k', hk', g1', g2'⟩ := hok.inSpur (by omega) hy
    rw [cellName_slot hok hk g1 g2, cellName_slot hok hk' g1' g2'] at h
    have b1 := hok.bounds _ (List.getElem_mem hk)
    have b2 := hok.bounds _ (List.getElem_mem hk')
    obtain ⟨e1, e2⟩ := slotName_inj (noSlash (hok.spurNamed hk)) (noSlash (hok.spurNamed hk')) (by omega) (by omega) h
    obtain rfl : k = k' := nodup_at hnd.2.1 (by simpa using hk) (by simpa using hk') (by simpa using e1)
    omega
theorem name_any (Ab An As Ar : Option Addr) (cb cn cs cr x : Nat) (N : NetD) (w : World) (hN : NetAt w Ab An As Ar N) (hok : NetOk N) (hcr : N.robots.length ≤ cr) (hp : Pows w) (hx : (x : Int) < cellsN N) :
    Calls Tryd.prog 26 #[.agg #[.slice Ab N.blocks.length cb, .slice An N.next.length cn, .slice As N.spurs.length cs, .slice Ar N.robots.length cr, Iv N.queue, Iv N.aging, Iv N.detours, Iv N.patience], .int .i64 x] w fun e w' => e = .returned (.tuple #[Sv (cellName N x), .int .i64 0]) ∧ Below w.heap.size w w' := by
  by_cases h : x < N.blocks.length
  · rw [cellName_block h]
    exact nameB_c Ab An As Ar cb cn cs cr x N w hN hok hcr h
  · obtain ⟨k, hk, h1, h2⟩ := hok.inSpur (by omega) hx
    rw [cellName_slot hok hk h1 h2]
    exact nameS_c Ab An As Ar cb cn cs cr k N x w hN hok hcr hp hk h1 h2
set_option maxRecDepth 100000 in
set_option maxHeartbeats 8000000 in
theorem cellsNames_c (C : Option Addr) (k : Nat) (zs : List Int) (w : World) (hz : IntsAt w w.heap.size C zs) (hzl : zs.length ≤ maxLen) (hp : Pows w) :
    Calls Tryd.prog 7 #[.slice C zs.length k] w fun e w' => e = .returned (.bool true) ∧ Below w.heap.size w w' := by
  have CK := Lib.hid (known9_c w hp)
  have HZ := Lib.hid hz
  have HL := Lib.hid hzl
  have HP := Lib.hid hp
  clear hz hzl hp
  go_enter Tryd.func7, Tryd.ntmps7
  go_wp2_with fail
  refine CK.out.mono ?_
  rintro e w1 ⟨rfl, hb1⟩
  have HT2 := Lib.hid (tape_new (c := k) HZ.out (Nat.le_refl _) hb1 HL.out)
  have HB2 : Hid (Below w.heap.size w (w1.alloc (.cells #[.slice C zs.length k, .int .i64 0] 35))) := Lib.hid (hb1.alloc hb1.size _)
  have HgB : Hid (w.heap.size ≤ w1.heap.size) := Lib.hid hb1.size
  have HS2 : Hid (w1.heap.size < (w1.alloc (.cells #[.slice C zs.length k, .int .i64 0] 35)).heap.size) := Lib.hid (by simp)
  clear hb1 CK HZ HL
  go_wp2_with fail
  refine (loose_c w.heap.size w1.heap.size 0 8 _ HT2.out (by omega) ⟨by omega, by omega⟩ HS2.out HgB.out).mono ?_
  rintro e w3 ⟨N, Ab, An, As, Ar, cb, cn, cs, cr, top, rfl, hN, hM⟩
  have HN := Lib.hid hN
  have H4 := Lib.hid (MadeN.begin hM ⟨HgB.out, HS2.out⟩ HB2.out)
  generalize w1.alloc (.cells #[.slice C zs.length k, .int .i64 0] 35) = w2 at *
  clear hN hM HT2 HB2 HgB HS2
  go_upto_region 4 with fail
  generalize w3.alloc (.cells (netCells Ab An As Ar cb cn cs cr N) 29) = w4 at *
  generalize w3.heap.size = X at *
  have HNt := Lib.hid (fun W (hW : Below w4.heap.size w4 W) => (H4.out.keep hW).nm.at_)
  have HX := Lib.hid (fun W (hW : Below w4.heap.size w4 W) => boxAt_of (H4.out.keep hW).box)
  have HBw := Lib.hid (fun W (hW : Below w4.heap.size w4 W) => (H4.out.keep hW).below)
  have HPw := Lib.hid (fun W (hW : Below w4.heap.size w4 W) => HP.out.keep (HBw.out W hW))
  have HCr := Lib.hid H4.out.nm.capR
  have HOk := Lib.hid HN.out.ok
  have h6 := HOk.out.spurs6
  clear HP H4
  have CCt := Lib.hid (fun W (hW : Below w4.heap.size w4 W) => count_c Ab An As Ar cb cn cs cr N W (HNt.out W hW) HOk.out HCr.out)
  obtain ⟨n, hn⟩ : ∃ n : Nat, cellsN N = (n : Int) := ⟨(cellsN N).toNat, by have := HOk.out.cells_ge; omega⟩
  have hn48 : n ≤ 48 := by
    have h1 := cellsN_le HOk.out.few'
    omega
  have CNm := Lib.hid (fun x W (hW : Below w4.heap.size w4 W) (hx : x < n) => name_any Ab An As Ar cb cn cs cr x N W (HNt.out W hW) HOk.out HCr.out (HPw.out W hW) (by rw [hn]; omega))
  have HAp : Hid (∀ x y : Nat, x < n → y < x → (cellName N y == cellName N x) = false) := Lib.hid (fun x y hx hy => by
    rw [beq_eq_false_iff_ne]
    intro e
    have := cellName_apart HOk.out (by rw [hn]; omega) (by rw [hn]; omega) e
    omega)
  have HSo : Hid (∀ x : Nat, x < n → cellName N x ≠ []) := Lib.hid (fun x hx => cellName_some HOk.out (by rw [hn]; omega))
  rw [hn] at CCt
  clear HNt HOk HCr HN HPw hn
  obtain ⟨x0, x1, x2, x3, x4, x5, x6, x7⟩ := HX.out _ (Below.refl _ _)
  go_wp2_with fail
  refine (CCt.out _ (Below.refl _ _)).mono ?_
  rintro e w5 ⟨rfl, hb5⟩
  have HB5 := Lib.hid hb5
  clear x0 x1 x2 x3 x4 x5 x6 x7 hb5 CCt
  generalize hcn : cellName N = cn_ at *
  clear hcn
  go_wp2
  go_loopw [6, 7] (fun v i wr => ∃ x : Nat, i = .int .i64 x ∧ x ≤ n ∧ Hid (wr.ownsRow w4.heap.size 9 1 v x ((List.range x).map (fun y => Sv (cn_ y)))) ∧ Hid (Below w4.heap.size w4 wr)) (fun _ i _ => n - (intOf i).toNat)
  case atStart => exact ⟨0, rfl, Nat.zero_le _, Lib.hid (World.ownsRow_nil _ _ _ _), HB5⟩
  case round =>
    clear HB5
    obtain ⟨x, rfl, hx, HO, HB⟩ := hrel
    obtain ⟨x0, x1, x2, x3, x4, x5, x6, x7⟩ := HX.out _ HB.out
    by_cases hlt : x < n
    · have CN1 := Lib.hid (CNm.out x wr HB.out hlt)
      have HA1 := Lib.hid (fun y (hy : y < x) => HAp.out x y hlt hy)
      have hso : (cn_ x).isEmpty = false := by have := HSo.out x hlt; simpa using this
      have HT : Hid ((List.range (x + 1)).map (fun y => Sv (cn_ y)) = (List.range x).map (fun y => Sv (cn_ y)) ++ [Sv (cn_ x)]) := Lib.hid (by rw [List.range_succ, List.map_append]; rfl)
      generalize hcx : cn_ x = nm at *
      clear hcx
      go_wp2_with fail
      refine CN1.out.mono ?_
      rintro e w8 ⟨rfl, hb8⟩
      have HB8 := Lib.hid (HB.out.trans (hb8.mono HB.out.size))
      have HO8 := Lib.hid (ownsRow_below HO.out hb8)
      clear x0 x1 x2 x3 x4 x5 x6 x7 hb8 CN1 HB HO
      obtain ⟨A8, c8, rfl, hh8⟩ := own_is HO8.out
      have HH8 := Lib.hid hh8
      clear hh8
      go_wp2
      go_loop [10] (fun i => ∃ y : Nat, i = .int .i64 y ∧ y ≤ x) (fun i => x - (intOf i).toNat)
      case atStart => exact ⟨0, rfl, Nat.zero_le _⟩
      case round =>
        obtain ⟨y, rfl, hy⟩ := hrel
        by_cases hyx : y < x
        · obtain ⟨b8, o8, rfl, _, hc8⟩ := HH8.out.at_ (by rw [List.length_map, List.length_range]; omega)
          have e1 := hc8 y (by rw [List.length_map, List.length_range]; exact hyx)
          rw [List.getElem_map, List.getElem_range] at e1
          have hne := HA1.out y hyx
          clear hc8
          generalize cn_ y = ny at *
          go_wp2
          go_round
          case rel => exact ⟨y + 1, by go_num, by omega⟩
          case measure => simp [intOf]; omega
        · have base := own_base HO8.out
          have h48 := HB8.out.size
          go_wp2_with (at_builtin; refine app_str _ rfl _ _ rfl w4.heap.size _ _ _ rfl (HO8.out.alloc _) w8.heap.size nm rfl (by simp [go_sem]) (by omega) (by simp; omega) ?_)
          intro v9 w9 own9 hg9
          have HB9 : Hid (Below w4.heap.size w4 w9) := Lib.hid ((HB8.out.alloc HB8.out.size _).grown hg9 (by simp; omega) (fun k hk => base k hk))
          have HO9 : Hid (w9.ownsRow w4.heap.size 9 1 v9 (x + 1) ((List.range (x + 1)).map (fun y => Sv (cn_ y)))) := Lib.hid (by rw [HT.out]; exact own9)
          clear own9 hg9 base
          go_wp2
          go_roundw
          case rel => exact ⟨x + 1, by go_num, by omega, HO9, HB9⟩
          case measure => simp [intOf]; omega
    · obtain rfl : x = n := by omega
      have HEnd := Lib.hid (HBw.out _ HB.out)
      go_wp2
      go_ret
      exact ⟨rfl, HEnd.out⟩
end Go.Proofs.YtcpoojlhfebcmaaDoor

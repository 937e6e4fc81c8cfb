/- Contracts of netmap's small checks, for valid networks: between, validConfig, validNext, depotOf, hasDepot. -/
import Derived.Test.YtcpoojlhfebcmaaDoorNtValid
import Derived.Test.YtcpoojlhfebcmaaDoorFdName
namespace Go.Proofs.YtcpoojlhfebcmaaDoor
open Go Go.RowKit Fl

theorem between_t (n lo hi : Int) (w : World) (h1 : lo ≤ n) (h2 : n ≤ hi) : Calls Tryd.prog 66 #[.int .i64 n, .int .i64 lo, .int .i64 hi] w fun e w' => e = .returned (.bool true) ∧ w = w' := by
  go_enter Tryd.func66, Tryd.ntmps66
  go_wp2
  go_ret
  exact ⟨rfl, rfl⟩
theorem between_f (n lo hi : Int) (w : World) (h : ¬ (lo ≤ n ∧ n ≤ hi)) : Calls Tryd.prog 66 #[.int .i64 n, .int .i64 lo, .int .i64 hi] w fun e w' => e = .returned (.bool false) ∧ w = w' := by
  by_cases h1 : lo ≤ n
  · have h2 : ¬ n ≤ hi := fun h3 => h ⟨h1, h3⟩
    clear h
    go_enter Tryd.func66, Tryd.ntmps66
    go_wp2
    go_ret
    exact ⟨rfl, rfl⟩
  · clear h
    go_enter Tryd.func66, Tryd.ntmps66
    go_wp2
    go_ret
    exact ⟨rfl, rfl⟩
set_option maxHeartbeats 2000000 in
theorem devConfig_c (q a d p : Int) (w : World) (h : ConfOk q a d p) :
    Calls Tryd.prog 54 #[.agg #[Iv q, Iv a, Iv d, Iv p]] w fun e w' => e = .returned (.bool true) ∧ Below w.heap.size w w' := by
  obtain ⟨⟨h1, h2⟩, ⟨h3, h4⟩, ⟨h5, h6⟩, ⟨h7, h8⟩⟩ := h
  have C1 := Lib.hid (fun W => between_t q 1 8 W h1 h2)
  have C2 := Lib.hid (fun W => between_t a 0 4 W h3 h4)
  have C3 := Lib.hid (fun W => between_t d 0 3 W h5 h6)
  have C4 := Lib.hid (fun W => between_t p 1 16 W h7 h8)
  have hB0 := Lib.hid ((Below.refl w.heap.size w).alloc (Nat.le_refl _) (.cells #[Iv q, Iv a, Iv d, Iv p] 27))
  clear h1 h2 h3 h4 h5 h6 h7 h8
  go_enter Tryd.func54, Tryd.ntmps54
  go_wp2_with fail
  refine (C1.out _).mono ?_
  rintro e w1 ⟨rfl, rfl⟩
  go_wp2_with fail
  refine (C2.out _).mono ?_
  rintro e w1 ⟨rfl, rfl⟩
  go_wp2_with fail
  refine (C3.out _).mono ?_
  rintro e w1 ⟨rfl, rfl⟩
  go_wp2_with fail
  refine (C4.out _).mono ?_
  rintro e w1 ⟨rfl, rfl⟩
  go_wp2
  go_ret
  exact ⟨rfl, hB0.out⟩
theorem Holds.iv' {w : World} {A : Option Addr} {l : List Int} (h : Holds w A (l.map Iv)) {k : Nat} (hk : k < l.length) : ∃ b o, A = some ⟨b, o, none⟩ ∧ w.cell? ⟨b, o + k, none⟩ = some (Iv l[k]) := by
  obtain ⟨b, o, hA, _, hc⟩ := h.at_ (by rw [List.length_map]; omega)
  have h1 := hc k (by rw [List.length_map]; exact hk)
  rw [List.getElem_map] at h1
  exact ⟨b, o, hA, h1⟩
set_option maxRecDepth 100000 in
set_option maxHeartbeats 4000000 in
theorem validNext_c (A : Option Addr) (c k n : Nat) (r : List Int) (w : World) (hh : Holds w A (r.map Iv)) (h4 : r.length ≤ 4) (hs : r.Pairwise (· < ·)) (hr : ∀ x ∈ r, 0 ≤ x ∧ x < (n : Int) ∧ x ≠ (k : Int)) :
    Calls Tryd.prog 68 #[.slice A r.length c, .int .i64 k, .int .i64 n] w fun e w' => e = .returned (.bool true) ∧ w = w' := by
  have HH := Lib.hid hh
  have HS := Lib.hid hs
  have HR := Lib.hid hr
  clear hh hs hr
  go_enter Tryd.func68, Tryd.ntmps68
  go_wp2
  go_loop [7, 15] (fun l i => ∃ (j : Nat) (z : Int), i = .int .i64 j ∧ l = .int .i64 z ∧ j ≤ r.length ∧ Hid (∀ (h : j < r.length), z < r[j])) (fun _ i => r.length - (intOf i).toNat)
  case atStart => exact ⟨0, -1, rfl, rfl, Nat.zero_le _, Lib.hid (fun h => by have := HR.out r[0] (List.getElem_mem h); omega)⟩
  case round =>
    obtain ⟨j, z, rfl, rfl, hj, HZ⟩ := hrel
    by_cases hlt : j < r.length
    · obtain ⟨b, o, rfl, e1⟩ := HH.out.iv' hlt
      obtain ⟨p1, p2, p3⟩ := HR.out r[j] (List.getElem_mem hlt)
      have hz := HZ.out hlt
      have HZ2 : Hid (∀ (h : j + 1 < r.length), r[j] < r[j + 1]) := Lib.hid (fun h => List.pairwise_iff_getElem.1 HS.out j (j + 1) hlt h (by omega))
      clear HZ
      generalize r[j] = x at *
      have q1 : ¬ x ≤ z := by omega
      have q2 : ¬ (n : Int) ≤ x := by omega
      have q3 : (x == (k : Int)) = false := by simpa using p3
      clear p3
      go_wp2
      go_round
      case rel => exact ⟨j + 1, x, by go_num, rfl, by omega, HZ2⟩
      case measure => simp [intOf]; omega
    · obtain rfl : j = r.length := by omega
      go_wp2
      go_ret
      exact ⟨rfl, rfl⟩
/-- The depot of a robot's cell. -/
theorem depot_first {l : List SpurD} {x : Int} (h : inDepot l x) : ∃ (k : Nat) (hk : k < l.length), l[k].depot = true ∧ l[k].base ≤ x ∧ x < l[k].base + l[k].slots ∧ ∀ j (hj : j < k), ¬ (l[j].depot = true ∧ l[j].base ≤ x ∧ x < l[j].base + l[j].slots) := by
  induction l with
  | nil => obtain ⟨s, hs, _⟩ := h; cases hs
  | cons a l ih =>
    by_cases ha : a.depot = true ∧ a.base ≤ x ∧ x < a.base + a.slots
    · exact ⟨0, by simp, ha.1, ha.2.1, ha.2.2, fun j hj => by omega⟩
    · have h' : inDepot l x := by
        obtain ⟨s, hs, h1⟩ := h
        rcases List.mem_cons.1 hs with rfl | hs
        · exact absurd h1 ha
        · exact ⟨s, hs, h1⟩
      obtain ⟨k, hk, h1, h2, h3, h4⟩ := ih h'
      refine ⟨k + 1, by simpa using hk, h1, h2, h3, fun j hj => ?_⟩
      cases j with
      | zero => exact ha
      | succ j => exact h4 j (by omega)
set_option maxRecDepth 100000 in
set_option maxHeartbeats 4000000 in
theorem depotOf_c (Ab An As Ar : Option Addr) (cb cn cs cr : Nat) (N : NetD) (x : Int) (w : World) (hN : NetAt w Ab An As Ar N) (h6 : N.spurs.length ≤ 6) (hb : ∀ s ∈ N.spurs, (0 ≤ s.slots ∧ s.slots ≤ 4) ∧ 0 ≤ s.base ∧ s.base ≤ 100) (hx : inDepot N.spurs x) :
    Calls Tryd.prog 70 #[.agg #[.slice Ab N.blocks.length cb, .slice An N.next.length cn, .slice As N.spurs.length cs, .slice Ar N.robots.length cr, Iv N.queue, Iv N.aging, Iv N.detours, Iv N.patience], .int .i64 x] w fun e w' => (∃ (k : Nat) (hk : k < N.spurs.length), N.spurs[k].depot = true ∧ N.spurs[k].base ≤ x ∧ x < N.spurs[k].base + N.spurs[k].slots ∧ e = .returned (.tuple #[Sv N.spurs[k].name, .int .i64 (x - N.spurs[k].base + 1), .bool true])) ∧ Below w.heap.size w w' := by
  obtain ⟨k0, hk0, d1, d2, d3, d4⟩ := depot_first hx
  have HS := Lib.hid hN.spurs
  have HB := Lib.hid hb
  have HD := Lib.hid (show N.spurs[k0].depot = true ∧ N.spurs[k0].base ≤ x ∧ x < N.spurs[k0].base + N.spurs[k0].slots from ⟨d1, d2, d3⟩)
  have HN4 := Lib.hid d4
  have hxb : 0 ≤ x ∧ x ≤ 200 := by have := hb _ (List.getElem_mem hk0); omega
  have hB0 := Lib.hid ((Below.refl w.heap.size w).alloc (Nat.le_refl _) (.cells (netCells Ab An As Ar cb cn cs cr N) 29))
  obtain ⟨_, _, y2, _⟩ := boxAt_of (heap_alloc_new w (.cells (netCells Ab An As Ar cb cn cs cr N) 29))
  clear hN hb hx d1 d2 d3 d4
  go_enter Tryd.func70, Tryd.ntmps70
  go_wp2
  generalize w.alloc (.cells (netCells Ab An As Ar cb cn cs cr N) 29) = w0 at *
  go_loopw [12] (fun i wr => ∃ (j : Nat), i = .int .i64 j ∧ j ≤ k0 ∧ Hid (Below w.heap.size w wr)) (fun i _ => N.spurs.length - (intOf i).toNat)
  case atStart => exact ⟨0, rfl, Nat.zero_le _, hB0⟩
  case round =>
    obtain ⟨j, rfl, hj, HBw⟩ := hrel
    have hjl : j < N.spurs.length := by omega
    obtain ⟨b, o, rfl, hbl, hs⟩ := HS.out.spur hjl
    obtain ⟨c0, c1, c2, c3, c4, c5⟩ := hs.keep hbl HBw.out
    have HBa : Hid (∀ ob, Below w.heap.size w (wr.alloc ob)) := Lib.hid (fun ob => HBw.out.alloc HBw.out.size ob)
    obtain ⟨⟨s1, s2⟩, s3, s4⟩ := HB.out _ (List.getElem_mem hjl)
    have HSj : Hid (∃ s, s = N.spurs[j]) := Lib.hid ⟨_, rfl⟩
    rcases Nat.lt_or_ge j k0 with hlt | hge
    · have hnot := HN4.out j hlt
      clear hs
      generalize N.spurs[j] = s at *
      obtain ⟨nm, dp, si, so, sw, sb⟩ := s
      simp only at c0 c1 c2 c3 c4 c5 s1 s2 s3 s4 hnot
      have hw1 : IntKind.i64.wrap (sb + sw) = sb + sw := IntWalk.i64_in _ (by omega)
      have hw2 : IntKind.i64.wrap (sb + sw - 1) = sb + sw - 1 := IntWalk.i64_in _ (by omega)
      rcases dp with _ | _
      · clear hnot
        go_wp2
        go_roundw
        case rel => exact ⟨j + 1, by go_num, by omega, Lib.hid (HBa.out _)⟩
        case measure => simp [intOf]; omega
      · have hnb : ¬ (sb ≤ x ∧ x ≤ sb + sw - 1) := fun h => hnot ⟨rfl, h.1, by omega⟩
        have CB := Lib.hid (fun W => between_f x sb (sb + sw - 1) W hnb)
        clear hnot hnb
        go_wp2_with fail
        refine (CB.out _).mono ?_
        rintro e w1 ⟨rfl, rfl⟩
        go_wp2
        go_roundw
        case rel => exact ⟨j + 1, by go_num, by omega, Lib.hid (HBa.out _)⟩
        case measure => simp [intOf]; omega
    · obtain rfl : j = k0 := by omega
      have HRes : Hid (∀ (e : Ending), e = .returned (.tuple #[Sv N.spurs[j].name, .int .i64 (x - N.spurs[j].base + 1), .bool true]) → ∃ (k : Nat) (hk : k < N.spurs.length), N.spurs[k].depot = true ∧ N.spurs[k].base ≤ x ∧ x < N.spurs[k].base + N.spurs[k].slots ∧ e = .returned (.tuple #[Sv N.spurs[k].name, .int .i64 (x - N.spurs[k].base + 1), .bool true])) := Lib.hid (fun e h => ⟨j, hjl, HD.out.1, HD.out.2.1, HD.out.2.2, h⟩)
      obtain ⟨d1, d2, d3⟩ := HD.out
      clear hs HD HN4
      generalize N.spurs[j] = s at *
      obtain ⟨nm, dp, si, so, sw, sb⟩ := s
      simp only at c0 c1 c2 c3 c4 c5 s1 s2 s3 s4 d1 d2 d3 HRes
      subst d1
      have hw1 : IntKind.i64.wrap (sb + sw) = sb + sw := IntWalk.i64_in _ (by omega)
      have hw2 : IntKind.i64.wrap (sb + sw - 1) = sb + sw - 1 := IntWalk.i64_in _ (by omega)
      have hw3 : IntKind.i64.wrap (x - sb) = x - sb := IntWalk.i64_in _ (by omega)
      have hw4 : IntKind.i64.wrap (x - sb + 1) = x - sb + 1 := IntWalk.i64_in _ (by omega)
      have CB := Lib.hid (fun W => between_t x sb (sb + sw - 1) W d2 (by omega))
      clear d2 d3
      go_wp2_with fail
      refine (CB.out _).mono ?_
      rintro e w1 ⟨rfl, rfl⟩
      go_wp2_with fail
      go_quiet (fail)
      go_wp2
      go_ret3
      exact ⟨HRes.out _ rfl, below_drewN (HBa.out _) _⟩
end Go.Proofs.YtcpoojlhfebcmaaDoor

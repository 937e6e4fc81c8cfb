/- ChannelOrder returns true: what is delivered leaves the order of the others as it is, and losing a frame leaves the same channel as delivering it. -/
import Derived.Test.YtckknakpmaagnaaCnMade
import Derived.Test.YtckknakpmaagnaaCnKnown
namespace Go.Proofs.Ytckknakpmaagnaa
open Go Go.RowKit Fl

set_option maxRecDepth 100000 in
set_option maxHeartbeats 2000000 in
theorem channelOrder_c (A1 : Option Addr) (c1 : Nat) (zs : List Int) (i : Int) (w : World) (hz : IntsAt w w.heap.size A1 zs) (hzl : zs.length ≤ maxLen) (hi : -9223372036854775808 ≤ i ∧ i ≤ 9223372036854775807) :
    Calls Try.prog 5 #[.slice A1 zs.length c1, .int .i64 i] w fun e w' => e = .returned (.bool true) ∧ Below w.heap.size w w' := by
  have CK := Lib.hid (known14_c w)
  have HZ := Lib.hid hz
  have HL := Lib.hid hzl
  clear hz hzl
  go_enter Try.func5, Try.ntmps5
  go_wp2_with fail
  refine CK.out.mono ?_
  rintro e w1 ⟨rfl, hb1⟩
  have HT := Lib.hid (tape_new (c := c1) HZ.out (Nat.le_refl _) hb1 HL.out)
  have HB1 : Hid (Below w.heap.size w (w1.alloc (.cells #[.slice A1 zs.length c1, .int .i64 0] 30))) := Lib.hid (hb1.alloc hb1.size _)
  have hgB : w.heap.size ≤ w1.heap.size := hb1.size
  have hsz : w1.heap.size < (w1.alloc (.cells #[.slice A1 zs.length c1, .int .i64 0] 30)).heap.size := by simp
  clear hb1 CK HZ HL
  go_wp2_with fail
  generalize w1.alloc (.cells #[.slice A1 zs.length c1, .int .i64 0] 30) = w2 at *
  generalize w1.heap.size = g at *
  refine (next_c w.heap.size g 0 6 w2 HT.out (by omega) (by omega) (by omega)).mono ?_
  rintro e w3 ⟨r, hr, rfl, ht3, hg3⟩
  have HT3 := Lib.hid ht3
  have HB3 : Hid (Below w.heap.size w w3) := Lib.hid (HB1.out.grown hg3 (by omega) (fun k hk => by injection hk with hk; omega))
  have hs3 : g < w3.heap.size := Nat.lt_of_lt_of_le hsz hg3.size
  obtain ⟨n, hn⟩ : ∃ n : Nat, n = 1 + r := ⟨_, rfl⟩
  have hwn : IntKind.i64.wrap (1 + (r : Int)) = (n : Int) := by rw [hn]; rw [show ((1 + r : Nat) : Int) = 1 + (r : Int) by omega]; exact wrap_inF (by omega)
  have hn6 : 1 ≤ n ∧ n ≤ 6 := by omega
  clear ht3 hg3 HT HB1 hn hr
  go_wp2_with fail
  refine (frames_c n w.heap.size g 1 w3 HT3.out (by omega) (by omega) (by omega)).mono ?_
  rintro e w4 ⟨u, l, rfl, hln, hO4, _, hg4⟩
  have HB4 : Hid (Below w.heap.size w w4) := Lib.hid (HB3.out.grown hg4 (by omega) (fun k hk => by injection hk with hk; omega))
  obtain ⟨A, c, rfl, hlc, hH4⟩ := own_frs hO4
  have HH4 := Lib.hid hH4
  clear hO4 hg4 hH4 HT3 HB3 hwn
  subst hln
  go_wp2_with fail
  refine (cut_c i l.length w4 (by omega) (by omega) hi.1 hi.2).mono ?_
  rintro e w4' ⟨k, hk, rfl, rfl⟩
  have hkl : k < l.length := by omega
  have HI := Lib.hid (hasI_lt hkl hn6.2)
  obtain ⟨_, _, hd1, hd2, _⟩ := hasI_at HI.out
  have CD : Hid (Calls Try.prog 10 #[.slice A l.length c, .int .i64 (k : Int)] w4 (DelPost l k w4)) := Lib.hid (devDel_c A c l k w4 HH4.out hlc)
  have CL := Lib.hid (fun W hh => devLose_c A c l k W hh hlc)
  unfold DelPost at CD
  unfold LosePost at CL
  rw [hd1, hd2, HI.out] at CD
  rw [hd2, HI.out] at CL
  have HDl := Lib.hid (dropL_len hkl)
  have HDa := Lib.hid (fun j => dropL_at (l := l) j hkl)
  clear hd1 hd2 HI
  go_wp2_with fail
  refine CD.out.mono ?_
  rintro e w5 ⟨v, rfl, hO5, hb5⟩
  obtain ⟨A5, c5, rfl, hc5, hH5⟩ := own_frs hO5
  have HX5 : Hid (FrAt (w5.alloc (.cells (FC l[k]) 25)) w5.heap.size l[k]) := Lib.hid (FrAt.new w5 l[k])
  have HH5 := Lib.hid (hH5.keep (below_newF w5 (.cells (FC l[k]) 25)))
  have HH45 := Lib.hid ((HH4.out.keep hb5).keep (below_newF w5 (.cells (FC l[k]) 25)))
  have HB5 := Lib.hid ((HB4.out.trans (hb5.mono HB4.out.size)).alloc (by have := hb5.size; have := HB4.out.size; omega) (.cells (FC l[k]) 25))
  clear hO5 hH5 hb5 CD HH4 HB4
  go_wp2_with fail
  generalize w5.alloc (.cells (FC l[k]) 25) = w6 at *
  generalize w5.heap.size = X at *
  refine (CL.out w6 HH45.out).mono ?_
  rintro e w7 ⟨v7, rfl, hO7, hb7⟩
  obtain ⟨A7, c7, rfl, hc7, hH7⟩ := own_frs hO7
  have HX7 := Lib.hid (HX5.out.keep hb7)
  have HH5 := Lib.hid (HH5.out.keep hb7)
  have HH47 := Lib.hid (HH45.out.keep hb7)
  have HH7 := Lib.hid hH7
  have HB7 := Lib.hid (HB5.out.trans (hb7.mono HB5.out.size))
  clear hO7 hH7 hb7 CL HX5 HH45 HB5
  have hLl := HDl.out
  generalize dropL l k = L at *
  have hwl : IntKind.i64.wrap ((l.length : Int) - 1) = (L.length : Int) := by rw [hLl]; rw [show (((l.length - 1 : Nat) : Int)) = (l.length : Int) - 1 by omega]; exact wrap_inF (by omega)
  have hL6 : L.length ≤ 6 := by omega
  clear hLl
  have hne : ((L.length : Int) != (L.length : Int)) = false := by simp
  obtain ⟨b, o, rfl, _, e0, e1, e2, e3, e4⟩ := holds_frm HH47.out hkl
  obtain ⟨x0, x1, x2, x3, x4⟩ := HX7.out.cell
  have CS := Lib.hid (fun (q : Nat) => sameF_c A5 A7 c5 c7 L.length L rfl (w7.drewN q) (HH5.out.drewN q) (HH7.out.drewN q) (by omega))
  have HE : Hid (∀ j (h : j < L.length), ∃ a, ∃ h2 : a < l.length, L[j] = l[a] ∧ ((k ≤ j ∧ a = j + 1) ∨ (¬ k ≤ j ∧ a = j))) := Lib.hid (fun j h => by
    have h1 := HDa.out j
    rw [List.getElem?_eq_getElem h] at h1
    obtain ⟨h3, h4⟩ := List.getElem?_eq_some_iff.1 h1.symm
    refine ⟨_, h3, h4.symm, ?_⟩
    by_cases hkj : k ≤ j
    · exact .inl ⟨hkj, if_pos hkj⟩
    · exact .inr ⟨hkj, if_neg hkj⟩)
  have hef := fun W => eq_frame l[k] l[k] W
  simp only [decide_true] at hef
  have hgd := guard_frame
  have hki : (k : Int) < (l.length : Int) := by omega
  clear HDa HDl HX7
  generalize l[k] = f at *
  obtain ⟨kind, robot, seq, cell, flag⟩ := f
  dsimp only at e0 e1 e2 e3 e4 x0 x1 x2 x3 x4
  go_wp2_with fail
  go_quiet (first | (go_at_call 12; exact (CS.out _).quiet_of))
  have HFl := Lib.hid (fun j (hj : j < l.length) => holds_frm HH47.out hj)
  have HFL := Lib.hid (fun j (hj : j < L.length) => holds_frm HH5.out hj)
  clear e0 e1 e2 e3 e4 x0 x1 x2 x3 x4 hef hne hwl CS HH47 HH5 HH7
  go_wp2
  go_loopw [13] (fun i wr => ∃ j n : Nat, i = .int .i64 j ∧ j ≤ L.length ∧ wr = w7.drewN n) (fun i _ => L.length - (intOf i).toNat)
  case atStart => exact ⟨0, _, rfl, Nat.zero_le _, rfl⟩
  case round =>
    obtain ⟨j, n, rfl, hj, rfl⟩ := hrel
    by_cases hlt : j < L.length
    · obtain ⟨a, hal, heq, hor⟩ := HE.out j hlt
      obtain ⟨b2, o2, rfl, _, f0, f1, f2, f3, f4⟩ := HFL.out j hlt
      obtain ⟨b3, o3, e5, _, e0, e1, e2, e3, e4⟩ := HFl.out a hal
      injection e5 with e5
      injection e5 with p1 p2
      subst p1 p2
      rw [heq] at f0 f1 f2 f3 f4
      have hjl : (j : Int) < (L.length : Int) := by omega
      have hali : (a : Int) < (l.length : Int) := by omega
      have hef := fun W => eq_frame l[a] l[a] W
      simp only [decide_true] at hef
      clear heq HE HFl HFL
      generalize l[a] = m at *
      obtain ⟨x, y, z, u, v⟩ := m
      dsimp only at e0 e1 e2 e3 e4 f0 f1 f2 f3 f4
      rcases hor with ⟨hkj, ha⟩ | ⟨hkj, ha⟩
      · have hwa : IntKind.i64.wrap ((j : Int) + 1) = (a : Int) := by rw [ha]; exact wrap_inF (by omega)
        have HA := Lib.hid ha
        clear ha
        go_wp2
        go_quiet (fail)
        go_wp2
        go_roundw
        case rel => exact ⟨a, _, rfl, by have := HA.out; omega, rfl⟩
        case measure => have := HA.out; simp [intOf]; omega
      · subst ha
        go_wp2
        go_quiet (fail)
        go_wp2
        go_roundw
        case rel => exact ⟨a + 1, _, by go_num, by omega, rfl⟩
        case measure => simp [intOf]; omega
    · clear HE HFl HFL
      go_wp2
      go_ret
      exact ⟨rfl, below_drewN HB7.out _⟩
end Go.Proofs.Ytckknakpmaagnaa

/- Joined texts. -/
import Derived.Test.YtpehpnpkgjcjbaaGreatDoorMjE
import Derived.Test.YtpehpnpkgjcjbaaGreatDoorMjC
namespace Go.Proofs.YtpehpnpkgjcjbaaGreatDoor
open Go.RowKit Fl
attribute [local go_sem] bget

set_option maxRecDepth 100000 in
set_option maxHeartbeats 1000000 in
theorem sameInts_eq (A1 A2 : Option Addr) (c1 c2 : Nat) (xs : List Int) (w : World) (h1 : Holds w A1 (xs.map I)) (h2 : Holds w A2 (xs.map I)) (hl : xs.length ≤ 1000000000000000000) :
    Calls Tryz.prog 32 #[.slice A1 xs.length c1, .slice A2 xs.length c2] w fun e w' => e = .returned (.bool true) ∧ ∃ n, w' = w.drewN n := by
  have H1 := Lib.hid h1
  have H2 := Lib.hid h2
  have hne : ((xs.length : Int) != (xs.length : Int)) = false := by simp
  clear h1 h2
  go_enter Tryz.func32, Tryz.ntmps32
  go_wp2
  go_loopw [5] (fun i wr => ∃ k n : Nat, i = .int .i64 k ∧ k ≤ xs.length ∧ wr = w.drewN n) (fun i _ => xs.length - (intOf i).toNat)
  case atStart => exact ⟨0, 0, rfl, Nat.zero_le _, rfl⟩
  case round =>
    obtain ⟨k, n, rfl, hk, rfl⟩ := hrel
    by_cases hlt : k < xs.length
    · obtain ⟨b1, o1, rfl, e1⟩ := H1.out.int hlt
      obtain ⟨b2, o2, rfl, e2⟩ := H2.out.int hlt
      have hnn : (xs[k] != xs[k]) = false := by simp
      generalize xs[k] = x at *
      clear H1 H2
      go_wp2
      go_quiet (fail)
      go_wp2
      go_roundw
      case rel => exact ⟨k + 1, _, by go_num, by omega, rfl⟩
      case measure => simp [intOf]; omega
    · clear H1 H2
      go_wp2
      go_ret
      exact ⟨rfl, n, rfl⟩
theorem holds_drew {w : World} {A : Option Addr} {xs : List Value} (h : Holds w A xs) (n : Nat) : Holds (w.drewN n) A xs := h.drewN n
set_option maxRecDepth 100000 in
set_option maxHeartbeats 4000000 in
theorem sameDecls_eq (A1 A2 : Option Addr) (c1 c2 : Nat) (ds : List DeclD) (w : World) (h1 : DeclsAt w A1 ds) (h2 : DeclsAt w A2 ds) (hl : ds.length ≤ 1000000000) (hn : ∀ d ∈ ds, d.names.length ≤ 1000000000) (hx : ∀ d ∈ ds, d.nums.length ≤ 1000000000) :
    Calls Tryz.prog 11 #[.slice A1 ds.length c1, .slice A2 ds.length c2] w fun e w' => e = .returned (.bool true) ∧ ∃ n, w' = w.drewN n := by
  have H1 := Lib.hid h1
  have H2 := Lib.hid h2
  have HN := Lib.hid hn
  have HX := Lib.hid hx
  have hne : ((ds.length : Int) != (ds.length : Int)) = false := by simp
  clear h1 h2 hn hx
  go_enter Tryz.func11, Tryz.ntmps11
  go_wp2
  go_loopw [5] (fun i wr => ∃ k : Nat, i = .int .i64 k ∧ k ≤ ds.length ∧ Hid (∃ n, wr = w.drewN n)) (fun i _ => ds.length - (intOf i).toNat)
  case atStart => exact ⟨0, rfl, Nat.zero_le _, Lib.hid ⟨0, rfl⟩⟩
  case round =>
    obtain ⟨k, rfl, hk, HW⟩ := hrel
    have hb : Below w.heap.size w wr := by obtain ⟨n, rfl⟩ := HW.out; exact below_drewN (Below.refl _ _) n
    by_cases hlt : k < ds.length
    · obtain ⟨b1, o1, P1, q1, P2, q2, rfl, e0, e1, e2, e3, g1, g2⟩ := (H1.out.keep hb).one hlt
      obtain ⟨b2, o2, R1, r1, R2, r2, rfl, f0, f1, f2, f3, j1, j2⟩ := (H2.out.keep hb).one hlt
      have CS := Lib.hid (fun m => sameStrings_c P1 R1 q1 r1 ds[k].names ds[k].names (wr.drewN m) (g1.drewN m) (j1.drewN m) (HN.out _ (List.getElem_mem hlt)) (HN.out _ (List.getElem_mem hlt)))
      have hd : decide (ds[k].names = ds[k].names) = true := by simp
      rw [hd] at CS
      have CI := Lib.hid (fun m => sameInts_eq P2 R2 q2 r2 ds[k].nums (wr.drewN m) (g2.drewN m) (j2.drewN m) (by have := HX.out _ (List.getElem_mem hlt); omega))
      have hn1 : (ds[k].word != ds[k].word) = false := by simp
      have hn2 : (ds[k].line != ds[k].line) = false := by simp
      clear g1 g2 j1 j2 hd hb H1 H2
      generalize ds[k] = d at *
      obtain ⟨dw, dl, ns, xs⟩ := d
      simp only at e0 e1 e2 e3 f0 f1 f2 f3 CS CI hn1 hn2
      go_wp2
      go_quiet (first | (go_at_call 31; exact (CS.out _).quiet_of) | (go_at_call 32; exact (CI.out _).quiet_of))
      go_wp2
      go_roundw
      case rel => exact ⟨k + 1, by go_num, by omega, Lib.hid (by obtain ⟨n, hn⟩ := HW.out; exact ⟨_, by rw [hn, World.drewN_drewN]⟩)⟩
      case measure => simp [intOf]; omega
    · clear H1 H2 hb
      go_wp2
      go_ret
      exact ⟨rfl, HW.out⟩
end Go.Proofs.YtpehpnpkgjcjbaaGreatDoor
namespace Go.Proofs.YtpehpnpkgjcjbaaGreatDoor
open Go.RowKit Fl
attribute [local go_sem] bget

theorem k2_1 : parseT [(4, [wLane, [97], [98], [99]])] = .ok [⟨2, 4, [[97], [98], [99]], []⟩] := by rfl
theorem k2_2 : parseT [(7, [wLane, [97]])] = .error (7, 5) := by rfl
theorem k2_3 : parseT [(1, [wBlock, [49], [49], [49]])] = .error (1, 6) := by rfl
theorem k2_4 : parseT [(1, [wBlock, [97], [49], [120]])] = .error (1, 7) := by rfl
theorem k2_5 : validB ⟨2, 4, [[97], [98], [99]], []⟩ = true := by rfl

set_option maxRecDepth 100000 in
set_option maxHeartbeats 4000000 in
theorem known2_c (w : World) (hg : Shapes w) : Calls Tryz.prog 4 #[] w fun e w' => e = .returned (.bool true) ∧ Below w.heap.size w w' := by
  have HG := Lib.hid hg
  clear hg
  go_enter Tryz.func4, Tryz.ntmps4
  go_wp2_with fail
  have two : ∀ (W : World) (a b : Obj), Below W.heap.size W ((W.alloc a).alloc b) := fun W a b => ((Below.refl _ _).alloc (Nat.le_refl _) _).alloc (by simp) _
  have HT := Lib.hid two
  clear two
  refine (parse_lit (n := 4) (fs := [wLane, [97], [98], [99]]) (HG.out.keep (HT.out _ _ _)) (heap_alloc2_old _ _ _) rfl (heap_alloc2_new _ _ _) (by simp) (by decide)).mono ?_
  rw [k2_1]
  rintro e w1 ⟨hb1, v, rfl, hd⟩
  obtain ⟨A, c, rfl, hD⟩ := hd.at_
  have HB1 := Lib.hid ((HT.out _ _ _).trans (hb1.mono (HT.out w _ _).size))
  have HD := Lib.hid hD
  clear hb1 hd hD
  go_wp2_with fail
  refine (parse_lit (n := 7) (fs := [wLane, [97]]) (HG.out.keep (HB1.out.trans ((HT.out w1 _ _).mono HB1.out.size))) (heap_alloc2_old _ _ _) rfl (heap_alloc2_new _ _ _) (by simp) (by decide)).mono ?_
  rw [k2_2]
  rintro e w2 ⟨hb2, rfl⟩
  have hb12 := (HT.out w1 _ _).trans (hb2.mono (HT.out w1 _ _).size)
  have HB2 := Lib.hid (HB1.out.trans (hb12.mono HB1.out.size))
  have HD2 := Lib.hid (HD.out.keep hb12)
  clear hb2 hb12 HD HB1
  go_wp2_with fail
  refine (parse_lit (n := 1) (fs := [wBlock, [49], [49], [49]]) (HG.out.keep (HB2.out.trans ((HT.out w2 _ _).mono HB2.out.size))) (heap_alloc2_old _ _ _) rfl (heap_alloc2_new _ _ _) (by simp) (by decide)).mono ?_
  rw [k2_3]
  rintro e w3 ⟨hb3, rfl⟩
  have hb23 := (HT.out w2 _ _).trans (hb3.mono (HT.out w2 _ _).size)
  have HB3 := Lib.hid (HB2.out.trans (hb23.mono HB2.out.size))
  have HD3 := Lib.hid (HD2.out.keep hb23)
  clear hb3 hb23 HD2 HB2
  go_wp2_with fail
  refine (parse_lit (n := 1) (fs := [wBlock, [97], [49], [120]]) (HG.out.keep (HB3.out.trans ((HT.out w3 _ _).mono HB3.out.size))) (heap_alloc2_old _ _ _) rfl (heap_alloc2_new _ _ _) (by simp) (by decide)).mono ?_
  rw [k2_4]
  rintro e w4 ⟨hb4, rfl⟩
  have hb34 := (HT.out w3 _ _).trans (hb4.mono (HT.out w3 _ _).size)
  have HB4 := Lib.hid (HB3.out.trans (hb34.mono HB3.out.size))
  obtain ⟨b, o, A1, c1, A2, c2, rfl, e0, e1, e2, e3, h1, h2⟩ := (HD3.out.keep hb34).one (k := 0) (by simp)
  simp only [List.getElem_cons_zero, Nat.zero_mul, Nat.add_zero] at e0 e1 e2 e3 h1 h2
  have HV := Lib.hid (valid_c ⟨2, 4, [[97], [98], [99]], []⟩ A1 A2 c1 c2 w4 (HG.out.keep HB4.out) h1 h2 (by simp) (by simp) (by decide))
  rw [k2_5] at HV
  clear hb4 hb34 HD3 HB3 h1 h2
  go_wp2_with fail
  refine HV.out.mono ?_
  rintro e w5 ⟨rfl, hb5⟩
  go_wp2
  go_ret
  exact ⟨rfl, HB4.out.trans (hb5.mono HB4.out.size)⟩
end Go.Proofs.YtpehpnpkgjcjbaaGreatDoor

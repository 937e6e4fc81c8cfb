/- RegisterRises returns true: the numbers of offers rise one by one, each is fresh after all before it, and only the newest one can be confirmed, once. -/
import Derived.Test.YtpiofjhcagdklaaRgRisesA
import Derived.Deep.RegionHeld3
import Derived.Deep.DeepCutAuto
namespace Go.Proofs.Ytpiofjhcagdklaa
open Go Go.RowKit Fl

set_option maxRecDepth 100000 in
set_option maxHeartbeats 1000000 in
theorem registerRises_c (A1 : Option Addr) (c1 : Nat) (zs : List Int) (w : World) (hz : IntsAt w w.heap.size A1 zs) (hzl : zs.length ≤ maxLen) :
    Calls Try.prog 4 #[.slice A1 zs.length c1] w fun e w' => e = .returned (.bool true) ∧ Below w.heap.size w w' := by
  have CK := Lib.hid (known15_c w)
  have HZ := Lib.hid hz
  have HL := Lib.hid hzl
  clear hz hzl
  go_enter Try.func4, Try.ntmps4
  go_wp2_with fail
  refine CK.out.mono ?_
  rintro e w1 ⟨rfl, hb1⟩
  have HT := Lib.hid (tape_new (c := c1) HZ.out (Nat.le_refl _) hb1 HL.out)
  have HB1 : Hid (Below w.heap.size w (w1.alloc (.cells #[.slice A1 zs.length c1, .int .i64 0] 44))) := Lib.hid (hb1.alloc hb1.size _)
  have hgB : w.heap.size ≤ w1.heap.size := hb1.size
  have hsz : w1.heap.size < (w1.alloc (.cells #[.slice A1 zs.length c1, .int .i64 0] 44)).heap.size := by simp
  clear hb1 CK HZ HL
  go_wp2_with fail
  have HR0 : Hid (RS w.heap.size w1.heap.size (w1.heap.size + 1) w zeroSn 0 ((w1.alloc (.cells #[.slice A1 zs.length c1, .int .i64 0] 44)).alloc (.cells #[.int .u64 0, .bool false, .int .i64 0, .int .i64 0] 24))) := Lib.hid (by
    have h1 := SnAt.new (w1.alloc (.cells #[.slice A1 zs.length c1, .int .i64 0] 44)) zeroSn
    rw [show (w1.alloc (.cells #[.slice A1 zs.length c1, .int .i64 0] 44)).heap.size = w1.heap.size + 1 by simp] at h1
    exact ⟨h1, HT.out.keep (below_newF _ _), HB1.out.alloc (by simp; omega) _, by omega, by omega⟩)
  generalize (w1.alloc (.cells #[.slice A1 zs.length c1, .int .i64 0] 44)).alloc (.cells #[.int .u64 0, .bool false, .int .i64 0, .int .i64 0] 24) = w2 at *
  generalize hY : w1.heap.size + 1 = Y at *
  generalize w1.heap.size = g at *
  generalize hB : w.heap.size = B at *
  have HBe := Lib.hid hB
  clear HT HB1 hsz hY hB hgB
  go_loopw [5] (fun k wr => ∃ (q : Nat) (c0 f0 : Int), k = .int .u64 ((q : Int) + 1) ∧ q ≤ 8 ∧ Hid (RS B g Y w ⟨(q : Int), false, c0, f0⟩ (3 * q) wr)) (fun k _ => 8 - ((intOf k).toNat - 1))
  case atStart => exact ⟨0, 0, 0, rfl, by omega, HR0⟩
  case round =>
    clear HR0
    obtain ⟨q, c0, f0, rfl, hq, HR⟩ := hrel
    by_cases hlt : q < 8
    · have hlt' : (q : Int) + 1 ≤ 8 := by omega
      have hlr := RS.lt HR.out
      have hby := HR.out.by_
      have HS : Hid (∀ W, SnAt W Y ⟨(q : Int), false, c0, f0⟩ → W.cell? ⟨Y, 0, none⟩ = some (.int .u64 (q : Int)) ∧ W.cell? ⟨Y, 1, none⟩ = some (.bool false) ∧ W.cell? ⟨Y, 2, none⟩ = some (.int .i64 c0) ∧ W.cell? ⟨Y, 3, none⟩ = some (.int .i64 f0)) := Lib.hid (fun W h => h.cell)
      have CO : Hid (∀ T W (c f : Nat), RS B g Y w ⟨(q : Int), false, c0, f0⟩ T W → (c : Int) < 48 → (f : Int) < 2 → Calls Try.prog 7 #[.agg #[.int .u64 (q : Int), .bool false, .int .i64 c0, .int .i64 f0], .int .i64 (c : Int), .int .i64 (f : Int)] W (fun e w' => e = .returned (.tuple #[SV ⟨(q : Int) + 1, true, (c : Int), (f : Int)⟩, .int .i64 0]) ∧ RS B g Y w ⟨(q : Int), false, c0, f0⟩ T w' ∧ (∀ b z, SnAt W b z → SnAt w' b z) ∧ W.heap.size ≤ w'.heap.size)) := Lib.hid (fun T W c f hR hc hf => by
        have h := offer_c ⟨(q : Int), false, c0, f0⟩ c f W ⟨by show (0 : Int) ≤ q; omega, by show (q : Int) < _; omega⟩
        unfold OffPost at h
        obtain ⟨r1, r2⟩ := off_ok (s := ⟨(q : Int), false, c0, f0⟩) (c := c) (f := f) (by omega) rfl (by show (q : Int) ≠ _; omega)
        rw [r1, r2] at h
        exact h.mono (fun e w' hh => ⟨hh.1, hR.keep hh.2, fun b z hz => hz.keep hh.2, hh.2.size⟩))
      have C48 := Lib.hid (fun T W h hT => next_rs (B := B) (g := g) (Y := Y) (w0 := w) (s := ⟨(q : Int), false, c0, f0⟩) T 48 W h hT (by omega) (by omega))
      have C2 := Lib.hid (fun T W h hT => next_rs (B := B) (g := g) (Y := Y) (w0 := w) (s := ⟨(q : Int), false, c0, f0⟩) T 2 W h hT (by omega) (by omega))
      go_wp2_with fail
      go_cut [6, 7] (fun p e wx => ∃ (X c f : Nat), p = .pointer (some ⟨X, 0, none⟩) ∧ e = .int .i64 0 ∧ Hid (SnAt wx X ⟨(q : Int) + 1, true, (c : Int), (f : Int)⟩) ∧ Hid (RS B g Y w ⟨(q : Int), false, c0, f0⟩ (3 * q + 1 + 1) wx))
      case first =>
        go_region_held3 (fun W => W.cell? ⟨Y, 0, none⟩ = some (.int .u64 (q : Int)) ∧ W.cell? ⟨Y, 1, none⟩ = some (.bool false) ∧ W.cell? ⟨Y, 2, none⟩ = some (.int .i64 c0) ∧ W.cell? ⟨Y, 3, none⟩ = some (.int .i64 f0)) ((refine HS.out _ ?_; repeat (first | (with_reducible exact RS.sn HR.out) | (with_reducible exact RS.sn (by assumption)) | (with_reducible refine SnAt.drew ?_) | (with_reducible refine SnAt.alloc ?_ _) | (refine SnAt.put ?_ (by first | assumption | omega))))) (first | (go_at_call 15; (with_reducible refine (C48.out (3 * q) _ (by repeat (first | assumption | exact HR.out | (with_reducible refine RS.drew ?_) | (with_reducible refine RS.alloc ?_ _))) (by omega)).mono ?_); rintro e wA ⟨c, hc, rfl, hRwA, hkwA, hswA⟩; have hlwA := RS.lt hRwA; refine cut_first (a := SnAt wA wr.heap.size zeroSn) ?_ ?_; (focus (refine hkwA wr.heap.size zeroSn (by omega) ?_; (repeat (first | assumption | (with_reducible exact SnAt.newz _) | (with_reducible exact SnAt.newd _) | (with_reducible refine SnAt.drew ?_))); done)); intro hZ) | (go_at_call 15; (with_reducible refine (C48.out (3 * q) _ (by repeat (first | assumption | exact HR.out | (with_reducible refine RS.drew ?_) | (with_reducible refine RS.alloc ?_ _))) (by omega)).mono ?_); rintro e wA ⟨c, hc, rfl, hRwA, hkwA, hswA⟩; have hlwA := RS.lt hRwA) | (go_at_call 15; (with_reducible refine (C2.out (3 * q + 1) _ (by repeat (first | assumption | exact HR.out | (with_reducible refine RS.drew ?_) | (with_reducible refine RS.alloc ?_ _))) (by omega)).mono ?_); rintro e wB ⟨f, hf, rfl, hRwB, hkwB, hswB⟩; have hlwB := RS.lt hRwB; refine cut_first (a := SnAt wB wr.heap.size zeroSn) ?_ ?_; (focus (refine hkwB wr.heap.size zeroSn (by omega) ?_; (repeat (first | assumption | (with_reducible exact SnAt.newz _) | (with_reducible exact SnAt.newd _) | (with_reducible refine SnAt.drew ?_))); done)); intro hZ) | (go_at_call 15; (with_reducible refine (C2.out (3 * q + 1) _ (by repeat (first | assumption | exact HR.out | (with_reducible refine RS.drew ?_) | (with_reducible refine RS.alloc ?_ _))) (by omega)).mono ?_); rintro e wB ⟨f, hf, rfl, hRwB, hkwB, hswB⟩; have hlwB := RS.lt hRwB; refine cut_first (a := SnAt wB wA.heap.size zeroSn) ?_ ?_; (focus (refine hkwB wA.heap.size zeroSn (by omega) ?_; (repeat (first | assumption | (with_reducible exact SnAt.newz _) | (with_reducible exact SnAt.newd _) | (with_reducible refine SnAt.drew ?_))); done)); intro hZ) | (go_at_call 15; (with_reducible refine (C2.out (3 * q + 1) _ (by repeat (first | assumption | exact HR.out | (with_reducible refine RS.drew ?_) | (with_reducible refine RS.alloc ?_ _))) (by omega)).mono ?_); rintro e wB ⟨f, hf, rfl, hRwB, hkwB, hswB⟩; have hlwB := RS.lt hRwB) | (go_at_call 7; (with_reducible refine (CO.out (3 * q + 1 + 1) _ c f (by repeat (first | assumption | exact HR.out | (with_reducible refine RS.drew ?_) | (with_reducible refine RS.alloc ?_ _))) hc hf).mono ?_); rintro e wC ⟨rfl, hRC, hkC, hsC⟩; have hlC := RS.lt hRC; refine cut_first (a := SnAt wC wr.heap.size zeroSn) ?_ ?_; (focus (refine hkC wr.heap.size zeroSn ?_; (repeat (first | assumption | (with_reducible exact SnAt.newz _) | (with_reducible exact SnAt.newd _) | (with_reducible refine SnAt.drew ?_))); done)); intro hZC; have hXl := block_lt hZC; obtain ⟨z0, z1, z2, z3⟩ := SnAt.cell hZC; obtain ⟨y0, y1, y2, y3⟩ := SnAt.frozen hZC) | (go_at_call 7; (with_reducible refine (CO.out (3 * q + 1 + 1) _ c f (by repeat (first | assumption | exact HR.out | (with_reducible refine RS.drew ?_) | (with_reducible refine RS.alloc ?_ _))) hc hf).mono ?_); rintro e wC ⟨rfl, hRC, hkC, hsC⟩; have hlC := RS.lt hRC; refine cut_first (a := SnAt wC wA.heap.size zeroSn) ?_ ?_; (focus (refine hkC wA.heap.size zeroSn ?_; (repeat (first | assumption | (with_reducible exact SnAt.newz _) | (with_reducible exact SnAt.newd _) | (with_reducible refine SnAt.drew ?_))); done)); intro hZC; have hXl := block_lt hZC; obtain ⟨z0, z1, z2, z3⟩ := SnAt.cell hZC; obtain ⟨y0, y1, y2, y3⟩ := SnAt.frozen hZC) | (go_at_call 7; (with_reducible refine (CO.out (3 * q + 1 + 1) _ c f (by repeat (first | assumption | exact HR.out | (with_reducible refine RS.drew ?_) | (with_reducible refine RS.alloc ?_ _))) hc hf).mono ?_); rintro e wC ⟨rfl, hRC, hkC, hsC⟩; have hlC := RS.lt hRC; refine cut_first (a := SnAt wC wB.heap.size zeroSn) ?_ ?_; (focus (refine hkC wB.heap.size zeroSn ?_; (repeat (first | assumption | (with_reducible exact SnAt.newz _) | (with_reducible exact SnAt.newd _) | (with_reducible refine SnAt.drew ?_))); done)); intro hZC; have hXl := block_lt hZC; obtain ⟨z0, z1, z2, z3⟩ := SnAt.cell hZC; obtain ⟨y0, y1, y2, y3⟩ := SnAt.frozen hZC) | (go_at_call 7; (with_reducible refine (CO.out (3 * q + 1 + 1) _ c f (by repeat (first | assumption | exact HR.out | (with_reducible refine RS.drew ?_) | (with_reducible refine RS.alloc ?_ _))) hc hf).mono ?_); rintro e wC ⟨rfl, hRC, hkC, hsC⟩; have hlC := RS.lt hRC))
        all_goals
          go_wp2_with fail
          go_meet
          case rel =>
            refine ⟨_, c, f, rfl, rfl, ?_, ?_⟩
            · first
              | exact Lib.hid (hZC.put4 ⟨(q : Int) + 1, true, (c : Int), (f : Int)⟩)
              | exact Lib.hid (SnAt.new wC ⟨(q : Int) + 1, true, (c : Int), (f : Int)⟩)
            · refine Lib.hid ?_
              repeat (first | assumption | (with_reducible refine RS.alloc ?_ _) | (with_reducible refine RS.put ?_ (by first | assumption | omega) (by first | assumption | omega) (by first | assumption | omega)))
      case rest =>
        clear HR HS CO C48 C2
        obtain ⟨X, c, f, rfl, rfl, HX, HR⟩ := hcut
        have CF1 := Lib.hid (fresh_q (q : Int) ((q : Int) + 1) true (by unfold freshB; simp; omega))
        have CF2 := Lib.hid (fresh_q ((q : Int) + 1) (q : Int) false (by unfold freshB; simp; omega))
        have CF3 := Lib.hid (fresh_q ((q : Int) + 1) ((q : Int) + 1) false (by unfold freshB; simp))
        obtain ⟨x0, x1, x2, x3⟩ := HX.out.cell
        obtain ⟨s0, s1, s2, s3⟩ := HR.out.sn.cell
        have hne : ((q : Int) + 1 != (q : Int) + 1) = false := by simp
        go_wp2_with fail
        refine (CF1.out _).mono ?_
        rintro e wd ⟨rfl, rfl⟩
        go_wp2_with fail
        refine (CF2.out _).mono ?_
        rintro e wd ⟨rfl, rfl⟩
        go_wp2_with fail
        refine (CF3.out _).mono ?_
        rintro e wd ⟨rfl, rfl⟩
        clear CF1 CF2 CF3 s0 s1 s2 s3
        have hw1 : IntKind.i64.wrap ((q : Int) + 1) = (q : Int) + 1 := IntWalk.i64_in _ ⟨by omega, by omega⟩
        go_wp2_with fail
        refine (next_rs (3 * q + 1 + 1) ((q : Int) + 1) wc HR.out (by omega) (by omega) (by omega)).mono ?_
        rintro e wA ⟨r, hr, rfl, hRA, hkA, hsA⟩
        have HRA := Lib.hid hRA
        have hXg : X ≠ g := by
          intro e
          subst e
          have h1 := HX.out
          obtain ⟨A, n, c, at_, zs, h2, _⟩ := HR.out.tape
          unfold SnAt at h1
          rw [h1] at h2
          simp at h2
        have HXA := Lib.hid (hkA X _ hXg HX.out)
        obtain ⟨x0, x1, x2, x3⟩ := HXA.out.cell
        have hwr : IntKind.u64.wrap (r : Int) = (r : Int) := by rw [IntKind.wrap_u64]; omega
        have CC1 := Lib.hid (fun W => confirm_c ⟨(q : Int) + 1, true, (c : Int), (f : Int)⟩ (r : Int) W)
        have CC2 := Lib.hid (fun W => confirm_c ⟨(q : Int) + 1, true, (c : Int), (f : Int)⟩ ((q : Int) + 1) W)
        have CC3 := Lib.hid (fun W => confirm_c ⟨(q : Int) + 1, false, (c : Int), (f : Int)⟩ ((q : Int) + 1) W)
        unfold ConfPost at CC1 CC2 CC3
        obtain ⟨k1, k2⟩ := conf_f (s := ⟨(q : Int) + 1, true, (c : Int), (f : Int)⟩) (q := (r : Int)) (.inr (by show (r : Int) ≠ (q : Int) + 1; omega))
        obtain ⟨k3, k4⟩ := conf_t (s := ⟨(q : Int) + 1, true, (c : Int), (f : Int)⟩) (q := (q : Int) + 1) rfl rfl
        obtain ⟨k5, k6⟩ := conf_f (s := ⟨(q : Int) + 1, false, (c : Int), (f : Int)⟩) (q := (q : Int) + 1) (.inl rfl)
        rw [k1, k2] at CC1
        rw [k3, k4] at CC2
        rw [k5, k6] at CC3
        clear k1 k2 k3 k4 k5 k6 hRA hkA HX HR hr hw1 hsA
        go_wp2_with fail
        refine (CC1.out _).mono ?_
        rintro e w5 ⟨rfl, hb5⟩
        have HR5 := Lib.hid ((HRA.out.keep hb5).alloc (.cells (SC ⟨(q : Int) + 1, true, (c : Int), (f : Int)⟩) 24))
        have HX5 := Lib.hid ((HXA.out.keep hb5).alloc (.cells (SC ⟨(q : Int) + 1, true, (c : Int), (f : Int)⟩) 24))
        obtain ⟨x0, x1, x2, x3⟩ := HX5.out.cell
        clear hb5 CC1 HRA HXA
        go_wp2_with fail
        generalize w5.alloc (.cells (SC ⟨(q : Int) + 1, true, (c : Int), (f : Int)⟩) 24) = w6 at *
        refine (CC2.out _).mono ?_
        rintro e w7 ⟨rfl, hb7⟩
        have HR7 := Lib.hid ((HR5.out.keep hb7).alloc (.cells (SC ⟨(q : Int) + 1, false, (c : Int), (f : Int)⟩) 24))
        have HY7 := Lib.hid (SnAt.new w7 ⟨(q : Int) + 1, false, (c : Int), (f : Int)⟩)
        obtain ⟨x0, x1, x2, x3⟩ := HY7.out.cell
        clear hb7 CC2 HR5 HX5
        go_wp2_with fail
        generalize w7.alloc (.cells (SC ⟨(q : Int) + 1, false, (c : Int), (f : Int)⟩) 24) = w8 at *
        generalize w7.heap.size = Z at *
        refine (CC3.out _).mono ?_
        rintro e w9 ⟨rfl, hb9⟩
        have HR9 := Lib.hid ((HR7.out.keep hb9).alloc (.cells (SC ⟨(q : Int) + 1, false, (c : Int), (f : Int)⟩) 24))
        have HY9 := Lib.hid ((HY7.out.keep hb9).alloc (.cells (SC ⟨(q : Int) + 1, false, (c : Int), (f : Int)⟩) 24))
        have HV9 := Lib.hid (SnAt.new w9 ⟨(q : Int) + 1, false, (c : Int), (f : Int)⟩)
        obtain ⟨x0, x1, x2, x3⟩ := HY9.out.cell
        obtain ⟨v0, v1, v2, v3⟩ := HV9.out.cell
        have HRS := Lib.hid (HR9.out.set ⟨(q : Int) + 1, false, (c : Int), (f : Int)⟩)
        obtain ⟨y0, y1, y2, y3⟩ := HR9.out.sn.cell
        obtain ⟨z0, z1, z2, z3⟩ := HR9.out.sn.frozen
        have hgd := guard_sn
        have hef := fun W => eq_sn ⟨(q : Int) + 1, false, (c : Int), (f : Int)⟩ ⟨(q : Int) + 1, false, (c : Int), (f : Int)⟩ W
        simp only [decide_true] at hef
        clear hb9 CC3 HR7 HY7
        go_wp2_with fail
        refine ⟨⟨q + 1, (c : Int), (f : Int), by rw [show ((q + 1 : Nat) : Int) = (q : Int) + 1 by omega], by omega, ?_⟩, ?_⟩
        · rw [show ((q + 1 : Nat) : Int) = (q : Int) + 1 by omega]
          exact HRS
        · simp [intOf]; omega
    · obtain rfl : q = 8 := by omega
      have HBz := Lib.hid HR.out.below
      clear HR
      go_wp2
      go_ret
      exact ⟨rfl, by rw [HBe.out]; exact HBz.out⟩
end Go.Proofs.Ytpiofjhcagdklaa

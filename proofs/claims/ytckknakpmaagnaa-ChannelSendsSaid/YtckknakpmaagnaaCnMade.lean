/- The laws' frames (made frames in a row of the call's own), and their count. -/
import Derived.Test.YtckknakpmaagnaaCnSame
namespace Go.Proofs.Ytckknakpmaagnaa
open Go Go.RowKit Fl

def FramesPost (n B gt T : Nat) (w : World) (e : Ending) (w' : World) : Prop := ∃ (u : Value) (l : List FrD), e = .returned u ∧ l.length = n ∧ OwnFr w' w.heap.size u l ∧ TapeOk w' B gt (T + 8 * n) ∧ w.grownBy w' (some gt)
set_option maxRecDepth 100000 in
set_option maxHeartbeats 1000000 in
theorem frames_c (n B gt T : Nat) (w : World) (ht : TapeOk w B gt T) (hT : T ≤ 900000) (hgt : gt < w.heap.size) (hn : n ≤ 8) :
    Calls Try.prog 7 #[.pointer (some ⟨gt, 0, none⟩), .int .i64 (n : Int)] w (FramesPost n B gt T w) := by
  have HT := Lib.hid ht
  have hBg : B ≤ gt := by obtain ⟨_, _, _, _, _, _, _, _, h, _⟩ := ht; exact h
  have HR : Hid (FramesPost n B gt T w = fun e w' => FramesPost n B gt T w e w') := Lib.hid rfl
  clear ht
  go_enter Try.func7, Try.ntmps7
  go_wp2
  go_loopw [5, 6] (fun v i wr => ∃ (k : Nat) (l : List FrD), i = .int .i64 k ∧ k ≤ n ∧ Hid (l.length = k) ∧ Hid (OwnFr wr w.heap.size v l) ∧ Hid (TapeOk wr B gt (T + 8 * k)) ∧ Hid (w.grownBy wr (some gt))) (fun _ i _ => n - (intOf i).toNat)
  case atStart => exact ⟨0, [], rfl, Nat.zero_le _, Lib.hid rfl, Lib.hid (own_nilF _ _), HT, Lib.hid (gb_refl _ _)⟩
  case round =>
    clear HT
    obtain ⟨k, l, rfl, hk, HL, HO, HT, HG⟩ := hrel
    have hsz := HG.out.size
    have hll := HL.out
    by_cases hlt : k < n
    · have hlt' : (k : Int) < (n : Int) := by omega
      clear hll
      go_wp2_with fail
      refine (frame_c B gt (T + 8 * k) wr HT.out (by omega) (by omega)).mono ?_
      rintro e w2 ⟨f, rfl, _, _, ht2, hg2⟩
      have HT2 := Lib.hid (ht2.keep (below_newF w2 (.cells (FC f) 25)))
      have HG2 := Lib.hid (gb_below (gb_next HG.out hg2) ((below_newF w2 (.cells (FC f) 25)).mono (by have := hg2.size; omega)))
      have HO2 := Lib.hid (OwnFr.keep (own_farF HO.out hg2 hgt) (below_newF w2 (.cells (FC f) 25)))
      obtain ⟨A1, c1, rfl, hc1⟩ := own_form HO.out
      have hs2 : w.heap.size ≤ w2.heap.size := by have := hg2.size; omega
      have HF : Hid (ArgFr (w2.alloc (.cells (FC f) 25)) (.slice (some ⟨w2.heap.size, 0, none⟩) 1 1) [f]) := Lib.hid (arg_box (FrAt.new w2 f) 1)
      have HLn : Hid (l.length + [f].length ≤ 1000000) := Lib.hid (by have := HL.out; simp; omega)
      have hs3 : w.heap.size ≤ (w2.alloc (.cells (FC f) 25)).heap.size := by simp; omega
      clear ht2 hg2 HO HT HG
      go_wp2_with (at_builtin; refine app_frames _ rfl _ _ (by rfl) w.heap.size _ l (by rfl) HO2.out _ [f] (by rfl) HF.out HLn.out hs3 ?_)
      intro v4 w4 hO4 hg4
      have HO4 := Lib.hid hO4
      have hgb := own_base HO2.out
      have HT4 : Hid (TapeOk w4 B gt (T + 8 * (k + 1))) := Lib.hid ((HT2.out.grown hg4 (fun e => by have := hgb gt e; omega) (fun q hq => by have := hgb q hq; omega)).more (by omega))
      have HG4 := Lib.hid (gb_below HG2.out ((Below.refl _ _).grown hg4 hs3 hgb))
      have HL4 : Hid ((l ++ [f]).length = k + 1) := Lib.hid (by have := HL.out; simp; omega)
      clear hO4 hg4 hgb HO2 HT2 HG2 HF HLn HL
      go_wp2
      go_roundw
      case rel => exact ⟨k + 1, l ++ [f], by go_num, by omega, HL4, HO4, HT4, HG4⟩
      case measure => simp [intOf]; omega
    · obtain rfl : k = n := by omega
      have HLl := Lib.hid hll
      clear hll
      go_wp2
      go_ret
      exact ⟨_, l, rfl, HLl.out, HO.out, HT.out, HG.out⟩
set_option maxRecDepth 100000 in
set_option maxHeartbeats 1000000 in
theorem count_c (A : Option Addr) (c n : Nat) (l : List FrD) (hn : l.length = n) (f : FrD) (w : World) (hh : Holds w A (frC l)) (hl : l.length ≤ 1000) :
    Calls Try.prog 19 #[.slice A n c, FV f] w fun e w' => e = .returned (.int .i64 (cntF l f)) ∧ Below w.heap.size w w' := by
  subst hn
  have H1 := Lib.hid (fun k (hk : k < l.length) => holds_frm hh hk)
  have HC : Hid (∀ k (hk : k < l.length), cntF (l.take (k + 1)) f = cntF (l.take k) f + (if f = l[k] then 1 else 0)) := Lib.hid (fun k hk => by rw [List.take_succ_eq_append_getElem hk, cnt_snoc])
  have HE : Hid (cntF (l.take l.length) f = cntF l f) := Lib.hid (by rw [List.take_length])
  have HLe : Hid (∀ k, cntF (l.take k) f ≤ 1000) := Lib.hid (fun k => Nat.le_trans (cnt_le _ _) (by rw [List.length_take]; omega))
  obtain ⟨kind, robot, seq, cell, flag⟩ := f
  have HB0 := Lib.hid (below_newF w (.cells (FC ⟨kind, robot, seq, cell, flag⟩) 25))
  have HX0 : Hid (FrAt (w.alloc (.cells (FC ⟨kind, robot, seq, cell, flag⟩) 25)) w.heap.size ⟨kind, robot, seq, cell, flag⟩) := Lib.hid (FrAt.new w _)
  have HX1 : Hid (∀ k (hk : k < l.length), ∃ b o, A = some ⟨b, o, none⟩ ∧ b < w.heap.size ∧ FrmIn (w.alloc (.cells (FC ⟨kind, robot, seq, cell, flag⟩) 25)) b (o + k * 5) l[k]) := Lib.hid (fun k hk => by
    obtain ⟨b, o, h1, h2, h3⟩ := H1.out k hk
    exact ⟨b, o, h1, h2, h3.keep HB0.out⟩)
  have hl' := hl
  clear hh H1
  go_enter Try.func19, Try.ntmps19
  go_wp2_with fail
  generalize w.alloc (.cells #[.int .i64 kind, .int .i64 robot, .int .u64 seq, .int .i64 cell, .int .i64 flag] 25) = w1 at *
  go_loopw [5, 6] (fun v i wr => ∃ k n z : Nat, i = .int .i64 k ∧ k ≤ l.length ∧ v = .int .i64 z ∧ Hid (z = cntF (l.take k) ⟨kind, robot, seq, cell, flag⟩) ∧ wr = w1.drewN n) (fun _ i _ => l.length - (intOf i).toNat)
  case atStart => exact ⟨0, 0, 0, rfl, Nat.zero_le _, rfl, Lib.hid (by simp [cntF]), rfl⟩
  case round =>
    obtain ⟨k, n, z, rfl, hk, rfl, HZ, rfl⟩ := hrel
    have hz1 : z ≤ 1000 := by rw [HZ.out]; exact HLe.out k
    by_cases hlt : k < l.length
    · obtain ⟨b1, o1, rfl, hb1, e0, e1, e2, e3, e4⟩ := HX1.out k hlt
      obtain ⟨x0, x1, x2, x3, x4⟩ := HX0.out.cell
      have hef := fun W => eq_frame l[k] ⟨kind, robot, seq, cell, flag⟩ W
      have HC1 := Lib.hid (HC.out k hlt)
      have hgd := guard_frame
      generalize l[k] = m at *
      obtain ⟨x, y, s, u, v⟩ := m
      dsimp only at e0 e1 e2 e3 e4 x0 x1 x2 x3 x4
      by_cases hm : (⟨x, y, s, u, v⟩ : FrD) = ⟨kind, robot, seq, cell, flag⟩
      · have HZ1 : Hid (z + 1 = cntF (l.take (k + 1)) ⟨kind, robot, seq, cell, flag⟩) := Lib.hid (by rw [HC1.out, if_pos hm.symm, HZ.out])
        have hef2 := fun W => (hef W).trans (by rw [decide_eq_true hm])
        clear hm hef HC1
        go_wp2
        go_quiet (fail)
        go_wp2
        go_roundw
        case rel => exact ⟨k + 1, _, z + 1, by go_num, by omega, by go_num, HZ1, rfl⟩
        case measure => simp [intOf]; omega
      · have HZ1 : Hid (z = cntF (l.take (k + 1)) ⟨kind, robot, seq, cell, flag⟩) := Lib.hid (by rw [HC1.out, if_neg (fun h => hm h.symm), HZ.out]; rfl)
        have hef2 := fun W => (hef W).trans (by rw [decide_eq_false hm])
        clear hm hef HC1
        go_wp2
        go_quiet (fail)
        go_wp2
        go_roundw
        case rel => exact ⟨k + 1, _, z, by go_num, by omega, rfl, HZ1, rfl⟩
        case measure => simp [intOf]; omega
    · obtain rfl : k = l.length := by omega
      clear HX1
      go_wp2
      go_ret
      exact ⟨by rw [HZ.out, HE.out]; rfl, below_drewN HB0.out _⟩
end Go.Proofs.Ytckknakpmaagnaa

/- SameInts and SameDecls report true of what is the same. -/
import Derived.Test.YtpglhidhghhmoaaDoorLyDecls
import Derived.Test.YtpglhidhghhmoaaDoorFdSame
namespace Go.Proofs.YtpglhidhghhmoaaDoor
open Go.RowKit Fl
attribute [local go_sem] bget

set_option maxRecDepth 100000 in
set_option maxHeartbeats 1000000 in
theorem sameInts_eq (A1 A2 : Option Addr) (c1 c2 : Nat) (xs : List Int) (w : World) (h1 : Holds w A1 (xs.map I)) (h2 : Holds w A2 (xs.map I)) (hl : xs.length ≤ 1000000000000000000) :
    Calls Tryd.prog 23 #[.slice A1 xs.length c1, .slice A2 xs.length c2] w fun e w' => e = .returned (.bool true) ∧ ∃ n, w' = w.drewN n := by
  have H1 := Lib.hid h1
  have H2 := Lib.hid h2
  have hne : ((xs.length : Int) != (xs.length : Int)) = false := by simp
  clear h1 h2
  go_enter Tryd.func23, Tryd.ntmps23
  go_wp2
  go_loopw [5] (fun i wr => ∃ k n : Nat, i = .int .i64 k ∧ k ≤ xs.length ∧ wr = w.drewN n) (fun i _ => xs.length - (intOf i).toNat)
  case atStart => exact ⟨0, 0, rfl, Nat.zero_le _, rfl⟩
  case round =>
    obtain ⟨k, n, rfl, hk, rfl⟩ := hrel
    by_cases hlt : k < xs.length
    · obtain ⟨b1, o1, rfl, e1⟩ := H1.out.int hlt
      obtain ⟨b2, o2, rfl, e2⟩ := H2.out.int hlt
      have hnn : (xs[k] != xs[k]) = false := by simp
      generalize xs[k] = x at *
      clear H1 H2
      go_wp2
      go_quiet (fail)
      go_wp2
      go_roundw
      case rel => exact ⟨k + 1, _, by go_num, by omega, rfl⟩
      case measure => simp [intOf]; omega
    · clear H1 H2
      go_wp2
      go_ret
      exact ⟨rfl, n, rfl⟩
theorem holds_drew {w : World} {A : Option Addr} {xs : List Value} (h : Holds w A xs) (n : Nat) : Holds (w.drewN n) A xs := h.drewN n
set_option maxRecDepth 100000 in
set_option maxHeartbeats 4000000 in
theorem sameDecls_eq (A1 A2 : Option Addr) (c1 c2 : Nat) (ds : List DeclD) (w : World) (h1 : DeclsAt w A1 ds) (h2 : DeclsAt w A2 ds) (hl : ds.length ≤ 1000000000) (hn : ∀ d ∈ ds, d.names.length ≤ 1000000000) (hx : ∀ d ∈ ds, d.nums.length ≤ 1000000000) :
    Calls Tryd.prog 11 #[.slice A1 ds.length c1, .slice A2 ds.length c2] w fun e w' => e = .returned (.bool true) ∧ ∃ n, w' = w.drewN n := by
  have H1 := Lib.hid h1
  have H2 := Lib.hid h2
  have HN := Lib.hid hn
  have HX := Lib.hid hx
  have hne : ((ds.length : Int) != (ds.length : Int)) = false := by simp
  clear h1 h2 hn hx
  go_enter Tryd.func11, Tryd.ntmps11
  go_wp2
  go_loopw [5] (fun i wr => ∃ k : Nat, i = .int .i64 k ∧ k ≤ ds.length ∧ Hid (∃ n, wr = w.drewN n)) (fun i _ => ds.length - (intOf i).toNat)
  case atStart => exact ⟨0, rfl, Nat.zero_le _, Lib.hid ⟨0, rfl⟩⟩
  case round =>
    obtain ⟨k, rfl, hk, HW⟩ := hrel
    have hb : Below w.heap.size w wr := by obtain ⟨n, rfl⟩ := HW.out; exact below_drewN (Below.refl _ _) n
    by_cases hlt : k < ds.length
    · obtain ⟨b1, o1, P1, q1, P2, q2, rfl, e0, e1, e2, e3, g1, g2⟩ := (H1.out.keep hb).one hlt
      obtain ⟨b2, o2, R1, r1, R2, r2, rfl, f0, f1, f2, f3, j1, j2⟩ := (H2.out.keep hb).one hlt
      have CS := Lib.hid (fun m => sameStrings_c P1 R1 q1 r1 ds[k].names ds[k].names (wr.drewN m) (g1.drewN m) (j1.drewN m) (HN.out _ (List.getElem_mem hlt)) (HN.out _ (List.getElem_mem hlt)))
      have hd : decide (ds[k].names = ds[k].names) = true := by simp
      rw [hd] at CS
      have CI := Lib.hid (fun m => sameInts_eq P2 R2 q2 r2 ds[k].nums (wr.drewN m) (g2.drewN m) (j2.drewN m) (by have := HX.out _ (List.getElem_mem hlt); omega))
      have hn1 : (ds[k].word != ds[k].word) = false := by simp
      have hn2 : (ds[k].line != ds[k].line) = false := by simp
      clear g1 g2 j1 j2 hd hb H1 H2
      generalize ds[k] = d at *
      obtain ⟨dw, dl, ns, xs⟩ := d
      simp only at e0 e1 e2 e3 f0 f1 f2 f3 CS CI hn1 hn2
      go_wp2
      go_quiet (first | (go_at_call 22; exact (CS.out _).quiet_of) | (go_at_call 23; exact (CI.out _).quiet_of))
      go_wp2
      go_roundw
      case rel => exact ⟨k + 1, by go_num, by omega, Lib.hid (by obtain ⟨n, hn⟩ := HW.out; exact ⟨_, by rw [hn, World.drewN_drewN]⟩)⟩
      case measure => simp [intOf]; omega
    · clear H1 H2 hb
      go_wp2
      go_ret
      exact ⟨rfl, HW.out⟩
end Go.Proofs.YtpglhidhghhmoaaDoor

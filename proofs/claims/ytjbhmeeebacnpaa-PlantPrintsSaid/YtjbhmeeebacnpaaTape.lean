/- Contracts of the verifier's Tape: Next returns a number from 0 to n - 1 and changes nothing but the tape's own place. -/
import Derived.Test.YtjbhmeeebacnpaaChecked
import Derived.Test.YtjbhmeeebacnpaaScope
import Derived.WalkKit
import Derived.ProofKit
import Derived.BigQuiet
import Derived.Lib.Hide
import Derived.Deep.QuietTactic
namespace Go.Proofs.Ytjbhmeeebacnpaa
open Go.RowKit

def CutPost (n : Int) (e : Ending) (w w' : World) : Prop := ∃ r : Nat, (r : Int) < n ∧ e = .returned (.int .i64 r) ∧ w = w'
theorem cut_c (v n : Int) (w : World) (h1 : 1 ≤ n) (hn : n ≤ 1000000) (hv1 : -9223372036854775808 ≤ v) (hv2 : v ≤ 9223372036854775807) : Calls Try.prog 12 #[.int .i64 v, .int .i64 n] w fun e w' => CutPost n e w w' := by
  by_cases h : n ≤ 1
  · go_enter Try.func12, Try.ntmps12
    go_wp2
    go_ret
    exact ⟨0, by omega, rfl, rfl⟩
  · have hlo : -n < v.tmod n := by have := Int.lt_tmod_of_pos v (show (0 : Int) < n by omega); omega
    have hhi : v.tmod n < n := Int.tmod_lt_of_pos v (by omega)
    by_cases h0 : 0 ≤ v
    · have e0 : v.tmod n = v % n := Int.tmod_eq_emod_of_nonneg h0
      rw [e0] at hlo hhi
      have hnn : 0 ≤ v % n := Int.emod_nonneg v (by omega)
      clear e0
      go_enter Try.func12, Try.ntmps12
      go_wp2
      go_ret
      exact ⟨(v % n).toNat, by omega, by rw [Int.toNat_of_nonneg hnn]; rfl, rfl⟩
    · have h0' : v < 0 := by omega
      clear h0
      by_cases hm : v.tmod n < 0
      · have hs1 : 0 ≤ v.tmod n + n := by omega
        go_enter Try.func12, Try.ntmps12
        go_wp2
        go_ret
        exact ⟨(v.tmod n + n).toNat, by omega, by rw [Int.toNat_of_nonneg hs1]; rfl, rfl⟩
      · have hs1 : 0 ≤ v.tmod n := by omega
        go_enter Try.func12, Try.ntmps12
        go_wp2
        go_ret
        exact ⟨(v.tmod n).toNat, by omega, by rw [Int.toNat_of_nonneg hs1]; rfl, rfl⟩

/-- Block g is a tape whose list lies below block B, and whose place is at most T. -/
def TapeOk (w : World) (B g T : Nat) : Prop := ∃ (A : Option Addr) (n c at_ : Nat) (zs : List Int),
  w.heap[g]? = some (.cells #[.slice A n c, .int .i64 at_] 35 (0, 0)) ∧ zs.length = n ∧ at_ ≤ T ∧ B ≤ g ∧ n ≤ maxLen ∧
  (0 < n → ∃ b o, A = some ⟨b, o, none⟩ ∧ b < B ∧ ∀ j (h : j < zs.length), w.cell? ⟨b, o + j, none⟩ = some (.int .i64 zs[j]) ∧ -9223372036854775808 ≤ zs[j] ∧ zs[j] ≤ 9223372036854775807)
theorem TapeOk.more {w : World} {B g T T' : Nat} (h : TapeOk w B g T) (hT : T ≤ T') : TapeOk w B g T' := by
  obtain ⟨A, n, c, at_, zs, h1, h2, h3, h4⟩ := h
  exact ⟨A, n, c, at_, zs, h1, h2, Nat.le_trans h3 hT, h4⟩
/-- A tape stays where nothing below the heap's end is written. -/
theorem TapeOk.keep {w w' : World} {B g T : Nat} (h : TapeOk w B g T) (hb : Below w.heap.size w w') : TapeOk w' B g T := by
  obtain ⟨A, n, c, at_, zs, h1, h2, h3, h4, h5, h6⟩ := h
  refine ⟨A, n, c, at_, zs, (hb.block g (block_lt h1)).trans h1, h2, h3, h4, h5, fun hn => ?_⟩
  obtain ⟨b, o, hA, hlt, hc⟩ := h6 hn
  exact ⟨b, o, hA, hlt, fun j hj => ⟨(hb.cell (p := ⟨b, o + j, none⟩) (by have := block_lt h1; show b < _; omega)).trans (hc j hj).1, (hc j hj).2⟩⟩
/-- .. and where a row of the call's own, of another type, may be written. -/
theorem TapeOk.grown {w w' : World} {B g T : Nat} {row : Option Nat} (h : TapeOk w B g T) (hg : w.grownBy w' row) (hr : row ≠ some g) (hB : ∀ k, row = some k → B ≤ k) : TapeOk w' B g T := by
  obtain ⟨A, n, c, at_, zs, h1, h2, h3, h4, h5, h6⟩ := h
  refine ⟨A, n, c, at_, zs, (hg.block g (block_lt h1) (fun e => hr e.symm)).trans h1, h2, h3, h4, h5, fun hn => ?_⟩
  obtain ⟨b, o, hA, hlt, hc⟩ := h6 hn
  refine ⟨b, o, hA, hlt, fun j hj => ⟨?_, (hc j hj).2⟩⟩
  have := World.cell?_of_block (w := w) (a := ⟨b, o + j, none⟩) (hg.block b (by have := block_lt h1; omega) (fun e => by have := hB b e.symm; omega))
  rw [this]; exact (hc j hj).1
def NextPost (B g T : Nat) (n : Int) (w : World) (e : Ending) (w' : World) : Prop := ∃ r : Nat, (r : Int) < n ∧ e = .returned (.int .i64 r) ∧ TapeOk w' B g (T + 1) ∧ w.grownBy w' (some g)
theorem tape_step {w : World} {B g T len c at_ nq : Nat} {A : Option Addr} {zs : List Int} (hh : w.heap[g]? = some (.cells #[.slice A len c, .int .i64 at_] 35 (0, 0))) (hlen : zs.length = len) (hat : at_ ≤ T) (hBg : B ≤ g) (hmax : len ≤ maxLen)
    (hcells : 0 < len → ∃ b o, A = some ⟨b, o, none⟩ ∧ b < B ∧ ∀ j (h : j < zs.length), w.cell? ⟨b, o + j, none⟩ = some (.int .i64 zs[j]) ∧ -9223372036854775808 ≤ zs[j] ∧ zs[j] ≤ 9223372036854775807) :
    TapeOk ((w.drewN nq).setCell ⟨g, 1, none⟩ (.int .i64 ((at_ : Int) + 1))) B g (T + 1) ∧ w.grownBy ((w.drewN nq).setCell ⟨g, 1, none⟩ (.int .i64 ((at_ : Int) + 1))) (some g) := by
  have hg : w.grownBy ((w.drewN nq).setCell ⟨g, 1, none⟩ (.int .i64 ((at_ : Int) + 1))) (some g) := by
    refine ⟨rfl, rfl, rfl, by simp [World.setCell, World.drewN], fun i hi hne => ?_⟩
    exact Below.heap_setCell (w.drewN nq) ⟨g, 1, none⟩ _ i (fun e => hne (by rw [e]))
  refine ⟨⟨A, len, c, at_ + 1, zs, ?_, hlen, by omega, hBg, hmax, fun hn => ?_⟩, hg⟩
  · simp [World.setCell, Array.getElem?_modify]
    exact ⟨_, hh, by simp⟩
  · obtain ⟨b, o, hA, hlt, hc⟩ := hcells hn
    refine ⟨b, o, hA, hlt, fun j hj => ⟨?_, (hc j hj).2⟩⟩
    have := World.cell?_of_block (w := w) (a := ⟨b, o + j, none⟩) (hg.block b (by have := block_lt hh; omega) (fun e => by injection e with e; omega))
    rw [this]; exact (hc j hj).1
set_option maxHeartbeats 1000000 in
theorem next_c (B g T : Nat) (n : Int) (w : World) (ht : TapeOk w B g T) (hT : T ≤ 1000000000) (h1 : 1 ≤ n) (hn : n ≤ 1000000) : Calls Try.prog 10 #[.pointer (some ⟨g, 0, none⟩), .int .i64 n] w (NextPost B g T n w) := by
  obtain ⟨A, len, c, at_, zs, hh, hlen, hat, hBg, hmax, hcells⟩ := ht
  unfold maxLen at hmax
  have hHH := Lib.hid hh
  have hlt := block_lt hh
  have c0 : w.cell? ⟨g, 0, none⟩ = some (.slice A len c) := by rw [cell_of_row w g 0 _ _ (0, 0) hh]; rfl
  have c1 : w.cell? ⟨g, 1, none⟩ = some (.int .i64 at_) := by rw [cell_of_row w g 1 _ _ (0, 0) hh]; rfl
  have hfz : w.frozen? ⟨g, 1, none⟩ = false := by simp [World.frozen?, hh]
  clear hh
  have HC := Lib.hid hcells
  by_cases hin : at_ < len
  · obtain ⟨b, o, rfl, _, hc⟩ := hcells (by omega)
    obtain ⟨e1, e2, e3⟩ := hc at_ (by omega)
    have HL := Lib.hid hlen
    clear hc hcells
    generalize zs[at_] = z at *
    clear hlen
    go_enter Try.func10, Try.ntmps10
    go_wp2
    go_quiet (fail)
    go_wp2
    go_quiet (fail)
    go_wp2_with fail
    refine (cut_c _ _ _ h1 hn e2 e3).mono ?_
    rintro e w1 ⟨r, hr, rfl, rfl⟩
    go_wp2_with fail
    go_ret
    have hts := fun q => tape_step (nq := q) hHH.out HL.out hat hBg hmax HC.out
    exact ⟨r, hr, rfl, (hts _).1, (hts _).2⟩
  · clear hcells
    go_enter Try.func10, Try.ntmps10
    go_wp2
    go_quiet (fail)
    go_wp2_with fail
    refine (cut_c _ _ _ h1 hn (by omega) (by omega)).mono ?_
    rintro e w1 ⟨r, hr, rfl, rfl⟩
    go_wp2_with fail
    go_ret
    obtain ⟨h2, h3⟩ := tape_step (nq := nq) hHH.out hlen hat hBg hmax HC.out
    exact ⟨r, hr, rfl, h2, h3⟩
end Go.Proofs.Ytjbhmeeebacnpaa

/- Next of a tape at a bound that is not positive; a tape made over an argument. -/
import Derived.Test.YtjbhmeeebacnpaaTape
namespace Go.Proofs.Ytjbhmeeebacnpaa
open Go.RowKit

theorem cut0_c (v n : Int) (w : World) (h1 : n ≤ 0) (hn : -1000000 ≤ n) (_ : -9223372036854775808 ≤ v) (_ : v ≤ 9223372036854775807) : Calls Try.prog 12 #[.int .i64 v, .int .i64 n] w fun e w' => CutPost 1 e w w' := by
  go_enter Try.func12, Try.ntmps12
  go_wp2
  go_ret
  exact ⟨0, by omega, rfl, rfl⟩
set_option maxHeartbeats 1000000 in
theorem next0_c (B g T : Nat) (n : Int) (w : World) (ht : TapeOk w B g T) (hT : T ≤ 1000000000) (h1 : n ≤ 0) (hn : -1000000 ≤ n) : Calls Try.prog 10 #[.pointer (some ⟨g, 0, none⟩), .int .i64 n] w (NextPost B g T 1 w) := by
  obtain ⟨A, len, c, at_, zs, hh, hlen, hat, hBg, hmax, hcells⟩ := ht
  unfold maxLen at hmax
  have hHH := Lib.hid hh
  have hlt := block_lt hh
  have c0 : w.cell? ⟨g, 0, none⟩ = some (.slice A len c) := by rw [cell_of_row w g 0 _ _ (0, 0) hh]; rfl
  have c1 : w.cell? ⟨g, 1, none⟩ = some (.int .i64 at_) := by rw [cell_of_row w g 1 _ _ (0, 0) hh]; rfl
  have hfz : w.frozen? ⟨g, 1, none⟩ = false := by simp [World.frozen?, hh]
  clear hh
  have HC := Lib.hid hcells
  by_cases hin : at_ < len
  · obtain ⟨b, o, rfl, _, hc⟩ := hcells (by omega)
    obtain ⟨e1, e2, e3⟩ := hc at_ (by omega)
    have HL := Lib.hid hlen
    clear hc hcells
    generalize zs[at_] = z at *
    clear hlen
    go_enter Try.func10, Try.ntmps10
    go_wp2
    go_quiet (fail)
    go_wp2
    go_quiet (fail)
    go_wp2_with fail
    refine (cut0_c _ _ _ h1 hn e2 e3).mono ?_
    rintro e w1 ⟨r, hr, rfl, rfl⟩
    go_wp2_with fail
    go_ret
    have hts := fun q => tape_step (nq := q) hHH.out HL.out hat hBg hmax HC.out
    exact ⟨r, hr, rfl, (hts _).1, (hts _).2⟩
  · clear hcells
    go_enter Try.func10, Try.ntmps10
    go_wp2
    go_quiet (fail)
    go_wp2_with fail
    refine (cut0_c _ _ _ h1 hn (by omega) (by omega)).mono ?_
    rintro e w1 ⟨r, hr, rfl, rfl⟩
    go_wp2_with fail
    go_ret
    obtain ⟨h2, h3⟩ := tape_step (nq := nq) hHH.out hlen hat hBg hmax HC.out
    exact ⟨r, hr, rfl, h2, h3⟩
/-- The list of numbers that an argument holds. -/
def IntsAt (w : World) (B : Nat) (A : Option Addr) (zs : List Int) : Prop :=
  0 < zs.length → ∃ b o, A = some ⟨b, o, none⟩ ∧ b < B ∧ ∀ j (h : j < zs.length), w.cell? ⟨b, o + j, none⟩ = some (.int .i64 zs[j]) ∧ -9223372036854775808 ≤ zs[j] ∧ zs[j] ≤ 9223372036854775807
theorem tape_new {w w1 : World} {B : Nat} {A : Option Addr} {c : Nat} {zs : List Int} (h : IntsAt w B A zs) (hB : B ≤ w.heap.size) (hb : Below w.heap.size w w1) (hl : zs.length ≤ maxLen) :
    TapeOk (w1.alloc (.cells #[.slice A zs.length c, .int .i64 0] 35)) B w1.heap.size 0 := by
  refine ⟨A, zs.length, c, 0, zs, heap_alloc_new w1 _, rfl, Nat.le_refl _, by have := hb.size; omega, hl, fun hn => ?_⟩
  obtain ⟨b, o, hA, hlt, hc⟩ := h hn
  refine ⟨b, o, hA, hlt, fun j hj => ⟨?_, (hc j hj).2⟩⟩
  have hbb : Below w.heap.size w (w1.alloc (.cells #[.slice A zs.length c, .int .i64 0] 35)) := hb.alloc hb.size _
  rw [hbb.cell (p := ⟨b, o + j, none⟩) (by show b < _; omega)]
  exact (hc j hj).1
theorem IntsAt.keep {w w' : World} {B : Nat} {A : Option Addr} {zs : List Int} (h : IntsAt w B A zs) (hB : B ≤ w.heap.size) (hb : Below w.heap.size w w') : IntsAt w' B A zs := fun hn => by
  obtain ⟨b, o, hA, hlt, hc⟩ := h hn
  exact ⟨b, o, hA, hlt, fun j hj => ⟨(hb.cell (p := ⟨b, o + j, none⟩) (by show b < _; omega)).trans (hc j hj).1, (hc j hj).2⟩⟩
theorem IntsAt.more {w : World} {B B' : Nat} {A : Option Addr} {zs : List Int} (h : IntsAt w B A zs) (hB : B ≤ B') : IntsAt w B' A zs := fun hn => by
  obtain ⟨b, o, hA, hlt, hc⟩ := h hn
  exact ⟨b, o, hA, by omega, hc⟩
end Go.Proofs.Ytjbhmeeebacnpaa

/- Contracts of the verifier's Tape, with the numbers that it returns. -/
import Derived.Test.YtpglhidhghhmoaaDoorFdMake
namespace Go.Proofs.YtpglhidhghhmoaaDoor
open Go.RowKit

def cutN (v : Int) (n : Nat) : Nat := if n ≤ 1 then 0 else (v % n).toNat
theorem cutN_lt {v : Int} {n : Nat} (h : 1 ≤ n) : cutN v n < n := by
  unfold cutN
  split
  · omega
  · have h1 : 0 ≤ v % (n : Int) := Int.emod_nonneg v (by omega)
    have h2 : v % (n : Int) < n := Int.emod_lt_of_pos v (by omega)
    omega
/-- What a tape over zs returns at place k, of n. -/
def tapeN (zs : List Int) (k n : Nat) : Nat := cutN (zs.getD k ((k * 7 % 11 : Nat) : Int)) n
theorem tapeN_lt {zs : List Int} {k n : Nat} (h : 1 ≤ n) : tapeN zs k n < n := cutN_lt h
theorem tapeN_one (zs : List Int) (k : Nat) : tapeN zs k 1 = 0 := rfl
theorem cutN_c (v : Int) (n : Nat) (w : World) (h1 : 1 ≤ n) (hn : n ≤ 1000000) (hv1 : -9223372036854775808 ≤ v) (hv2 : v ≤ 9223372036854775807) : Calls Tryd.prog 37 #[.int .i64 v, .int .i64 n] w fun e w' => e = .returned (.int .i64 (cutN v n)) ∧ w = w' := by
  by_cases h : n ≤ 1
  · have HC : Hid (cutN v n = 0) := Lib.hid (by unfold cutN; rw [if_pos h])
    have h' : (n : Int) ≤ 1 := by omega
    clear h
    go_enter Tryd.func37, Tryd.ntmps37
    go_wp2
    go_ret
    exact ⟨by rw [HC.out]; rfl, rfl⟩
  · have HC : Hid (cutN v n = (v % (n : Int)).toNat) := Lib.hid (by unfold cutN; rw [if_neg h])
    have hlo : -(n : Int) < v.tmod n := by have := Int.lt_tmod_of_pos v (show (0 : Int) < n by omega); omega
    have hhi : v.tmod n < n := Int.tmod_lt_of_pos v (by omega)
    have hnn : 0 ≤ v % (n : Int) := Int.emod_nonneg v (by omega)
    have h' : ¬ (n : Int) ≤ 1 := by omega
    clear h
    by_cases h0 : 0 ≤ v
    · have e0 : v.tmod n = v % n := Int.tmod_eq_emod_of_nonneg h0
      rw [e0] at hlo hhi
      clear e0
      go_enter Tryd.func37, Tryd.ntmps37
      go_wp2
      go_ret
      exact ⟨by rw [HC.out, Int.toNat_of_nonneg hnn]; rfl, rfl⟩
    · have h0' : v < 0 := by omega
      clear h0
      have hem := Int.emod_lt_of_pos v (show (0 : Int) < n by omega)
      have hd1 := Int.tmod_add_mul_tdiv v n
      have hd2 := Int.emod_add_mul_ediv v n
      have hmod : v % (n : Int) = if v.tmod n < 0 then v.tmod n + n else v.tmod n := by
        have hx : (v.tmod n - v % n) = n * (v / n - v.tdiv n) := by rw [Int.mul_sub]; omega
        have hk : v / n - v.tdiv n = -1 ∨ v / n - v.tdiv n = 0 ∨ v / n - v.tdiv n = 1 := by
          generalize v / (n : Int) - v.tdiv n = k at hx
          have k1 : k < 2 := by
            by_cases h : k < 2
            · exact h
            · have := Int.mul_le_mul_of_nonneg_left (show (2 : Int) ≤ k by omega) (show (0 : Int) ≤ n by omega); omega
          have k2 : -2 < k := by
            by_cases h : -2 < k
            · exact h
            · have := Int.mul_le_mul_of_nonneg_left (show k ≤ (-2 : Int) by omega) (show (0 : Int) ≤ n by omega); omega
          omega
        rcases hk with hk | hk | hk <;> rw [hk] at hx <;> split <;> omega
      by_cases hm : v.tmod n < 0
      · rw [if_pos hm] at hmod
        have hs1 : 0 ≤ v.tmod n + n := by omega
        have HM := Lib.hid hmod
        clear hmod hd1 hd2 hem
        go_enter Tryd.func37, Tryd.ntmps37
        go_wp2
        go_ret
        exact ⟨by rw [HC.out, Int.toNat_of_nonneg hnn, HM.out]; rfl, rfl⟩
      · rw [if_neg hm] at hmod
        have hs1 : 0 ≤ v.tmod n := by omega
        have HM := Lib.hid hmod
        clear hmod hd1 hd2 hem
        go_enter Tryd.func37, Tryd.ntmps37
        go_wp2
        go_ret
        exact ⟨by rw [HC.out, Int.toNat_of_nonneg hnn, HM.out]; rfl, rfl⟩
/-- Block g is a tape over zs that lies below block B, at place k. -/
def TapeAt (w : World) (B g : Nat) (zs : List Int) (k : Nat) : Prop := ∃ (A : Option Addr) (c : Nat),
  w.heap[g]? = some (.cells #[.slice A zs.length c, .int .i64 k] 43 (0, 0)) ∧ B ≤ g ∧ zs.length ≤ maxLen ∧
  (0 < zs.length → ∃ b o, A = some ⟨b, o, none⟩ ∧ b < B ∧ ∀ j (h : j < zs.length), w.cell? ⟨b, o + j, none⟩ = some (.int .i64 zs[j]) ∧ -9223372036854775808 ≤ zs[j] ∧ zs[j] ≤ 9223372036854775807)
theorem TapeAt.keep {w w' : World} {B g k : Nat} {zs : List Int} (h : TapeAt w B g zs k) (hb : Below w.heap.size w w') : TapeAt w' B g zs k := by
  obtain ⟨A, c, h1, h3, h4, h5⟩ := h
  refine ⟨A, c, (hb.block g (block_lt h1)).trans h1, h3, h4, fun hn => ?_⟩
  obtain ⟨b, o, hA, hlt, hc⟩ := h5 hn
  refine ⟨b, o, hA, hlt, fun j hj => ⟨(hb.cell (p := ⟨b, o + j, none⟩) (by have := block_lt h1; show b < _; omega)).trans (hc j hj).1, (hc j hj).2⟩⟩
theorem TapeAt.grown {w w' : World} {B g k : Nat} {zs : List Int} {row : Option Nat} (h : TapeAt w B g zs k) (hg : w.grownBy w' row) (hne : row ≠ some g) (hB : ∀ b, row = some b → B ≤ b) : TapeAt w' B g zs k := by
  obtain ⟨A, c, h1, h3, h4, h5⟩ := h
  refine ⟨A, c, (hg.block g (block_lt h1) (fun e => hne e.symm)).trans h1, h3, h4, fun hn => ?_⟩
  obtain ⟨b, o, hA, hlt, hc⟩ := h5 hn
  refine ⟨b, o, hA, hlt, fun j hj => ⟨?_, (hc j hj).2⟩⟩
  have := World.cell?_of_block (w := w) (a := ⟨b, o + j, none⟩) (hg.block b (by have := block_lt h1; omega) (fun e => by have := hB b e.symm; omega))
  rw [this]; exact (hc j hj).1
theorem tapeAt_new {w w1 : World} {B : Nat} {A : Option Addr} {c : Nat} {zs : List Int} (h : IntsAt w B A zs) (hB : B ≤ w.heap.size) (hb : Below w.heap.size w w1) (hl : zs.length ≤ maxLen) :
    TapeAt (w1.alloc (.cells #[.slice A zs.length c, .int .i64 0] 43)) B w1.heap.size zs 0 := by
  refine ⟨A, c, heap_alloc_new w1 _, by have := hb.size; omega, hl, fun hn => ?_⟩
  obtain ⟨b, o, hA, hlt, hc⟩ := h hn
  refine ⟨b, o, hA, hlt, fun j hj => ⟨?_, (hc j hj).2⟩⟩
  have hbb : Below w.heap.size w (w1.alloc (.cells #[.slice A zs.length c, .int .i64 0] 43)) := hb.alloc hb.size _
  rw [hbb.cell (p := ⟨b, o + j, none⟩) (by show b < _; omega)]
  exact (hc j hj).1
def NextIs (B g : Nat) (zs : List Int) (k n : Nat) (w : World) (e : Ending) (w' : World) : Prop := e = .returned (.int .i64 (tapeN zs k n)) ∧ TapeAt w' B g zs (k + 1) ∧ w.grownBy w' (some g)
theorem tapeAt_step {w : World} {B g len c k nq : Nat} {A : Option Addr} {zs : List Int} (hh : w.heap[g]? = some (.cells #[.slice A len c, .int .i64 k] 43 (0, 0))) (hlen : zs.length = len) (hBg : B ≤ g) (hmax : len ≤ maxLen)
    (hcells : 0 < len → ∃ b o, A = some ⟨b, o, none⟩ ∧ b < B ∧ ∀ j (h : j < zs.length), w.cell? ⟨b, o + j, none⟩ = some (.int .i64 zs[j]) ∧ -9223372036854775808 ≤ zs[j] ∧ zs[j] ≤ 9223372036854775807) :
    TapeAt ((w.drewN nq).setCell ⟨g, 1, none⟩ (.int .i64 ((k : Int) + 1))) B g zs (k + 1) ∧ w.grownBy ((w.drewN nq).setCell ⟨g, 1, none⟩ (.int .i64 ((k : Int) + 1))) (some g) := by
  subst hlen
  have hg : w.grownBy ((w.drewN nq).setCell ⟨g, 1, none⟩ (.int .i64 ((k : Int) + 1))) (some g) := by
    refine ⟨rfl, rfl, rfl, by simp [World.setCell, World.drewN], fun i hi hne => ?_⟩
    exact Below.heap_setCell (w.drewN nq) ⟨g, 1, none⟩ _ i (fun e => hne (by rw [e]))
  refine ⟨⟨A, c, ?_, hBg, hmax, fun hn => ?_⟩, hg⟩
  · simp [World.setCell, Array.getElem?_modify]
    exact ⟨_, hh, by simp⟩
  · obtain ⟨b, o, hA, hlt, hc⟩ := hcells hn
    refine ⟨b, o, hA, hlt, fun j hj => ⟨?_, (hc j hj).2⟩⟩
    have := World.cell?_of_block (w := w) (a := ⟨b, o + j, none⟩) (hg.block b (by have := block_lt hh; omega) (fun e => by injection e with e; omega))
    rw [this]; exact (hc j hj).1
set_option maxHeartbeats 1000000 in
theorem nextIs_c (B g k n : Nat) (zs : List Int) (w : World) (ht : TapeAt w B g zs k) (hT : k ≤ 1000000000) (h1 : 1 ≤ n) (hn : n ≤ 1000000) : Calls Tryd.prog 19 #[.pointer (some ⟨g, 0, none⟩), .int .i64 n] w (NextIs B g zs k n w) := by
  obtain ⟨A, c, hh, hBg, hmax, hcells⟩ := ht
  unfold maxLen at hmax
  obtain ⟨len, hlen⟩ : ∃ len, zs.length = len := ⟨_, rfl⟩
  rw [hlen] at hh hmax
  replace hcells := fun (h : 0 < len) => hcells (by omega)
  have hHH := Lib.hid hh
  have hlt := block_lt hh
  have c0 : w.cell? ⟨g, 0, none⟩ = some (.slice A len c) := by rw [cell_of_row w g 0 _ _ (0, 0) hh]; rfl
  have c1 : w.cell? ⟨g, 1, none⟩ = some (.int .i64 k) := by rw [cell_of_row w g 1 _ _ (0, 0) hh]; rfl
  have hfz : w.frozen? ⟨g, 1, none⟩ = false := by simp [World.frozen?, hh]
  clear hh
  have HC := Lib.hid hcells
  by_cases hin : k < len
  · obtain ⟨b, o, rfl, _, hc⟩ := hcells (by omega)
    obtain ⟨e1, e2, e3⟩ := hc k (by omega)
    have HV : Hid (tapeN zs k n = cutN zs[k] n) := Lib.hid (by unfold tapeN; rw [List.getD_eq_getElem?_getD, List.getElem?_eq_getElem (by omega)]; rfl)
    have HL := Lib.hid hlen
    clear hc hcells
    generalize zs[k] = z at *
    clear hlen
    go_enter Tryd.func19, Tryd.ntmps19
    go_wp2
    go_quiet (fail)
    go_wp2
    go_quiet (fail)
    go_wp2_with fail
    refine (cutN_c _ _ _ h1 hn e2 e3).mono ?_
    rintro e w1 ⟨rfl, rfl⟩
    go_wp2_with fail
    go_ret
    have hts := fun q => tapeAt_step (nq := q) hHH.out HL.out hBg hmax HC.out
    exact ⟨by rw [HV.out]; rfl, (hts _).1, (hts _).2⟩
  · have HV : Hid (tapeN zs k n = cutN ((k : Int) * 7 % 11) n) := Lib.hid (by unfold tapeN; rw [List.getD_eq_getElem?_getD, List.getElem?_eq_none (by omega)]; simp)
    have HL := Lib.hid hlen
    clear hcells hlen
    go_enter Tryd.func19, Tryd.ntmps19
    go_wp2
    go_quiet (fail)
    go_wp2_with fail
    refine (cutN_c _ _ _ h1 hn (by omega) (by omega)).mono ?_
    rintro e w1 ⟨rfl, rfl⟩
    go_wp2_with fail
    go_ret
    have hts := fun q => tapeAt_step (nq := q) hHH.out HL.out hBg hmax HC.out
    exact ⟨by rw [HV.out]; rfl, (hts _).1, (hts _).2⟩
end Go.Proofs.YtpglhidhghhmoaaDoor

/- Joined texts. -/
import Derived.Test.YtkgnblnhfjjjmaaRcWo
import Derived.Test.YtkgnblnhfjjjmaaRcFrom
import Derived.Test.YtkgnblnhfjjjmaaTape
import Derived.Test.YtkgnblnhfjjjmaaGrSame
namespace Go.Proofs.Ytkgnblnhfjjjmaa
open Go Go.RowKit Fl

/-- Row x, when vertices before v are through, and m elements of v's row. -/
def revF (g : GraphD) (v m x : Nat) : List Int := intoK g v x ++ (if (x : Int) ∈ (rowG g v).take m then [(v : Int)] else [])
theorem intoK_succ (g : GraphD) (v x : Nat) : intoK g (v + 1) x = intoK g v x ++ (if (x : Int) ∈ rowG g v then [(v : Int)] else []) := by
  unfold intoK
  rw [List.range_succ, List.filter_append, List.map_append]
  congr 1
  by_cases h : (x : Int) ∈ rowG g v
  · simp [h]
  · simp [h]
theorem intoK_short (g : GraphD) (v x : Nat) : (intoK g v x).length ≤ v := by
  unfold intoK
  rw [List.length_map]
  exact Nat.le_trans (List.length_filter_le _ _) (by simp)
theorem revF_start (g : GraphD) : rowsF g.length (revF g 0 0) = List.replicate g.length [] := by
  rw [← rowsF_nil]
  exact rowsF_congr fun i _ => by simp [revF, intoK]
theorem revF_next {g : GraphD} {v m : Nat} (hm : (rowG g v).length ≤ m) : rowsF g.length (revF g v m) = rowsF g.length (revF g (v + 1) 0) := by
  refine rowsF_congr fun i _ => ?_
  unfold revF
  rw [intoK_succ, List.take_of_length_le hm]
  simp
theorem revF_end (g : GraphD) : rowsF g.length (revF g g.length 0) = revG g := by
  unfold revG rowsF
  exact List.map_congr_left fun i _ => by simp [revF]
theorem revF_put {g : GraphD} {v m y : Nat} (hg : validG g = true) (hv : v < g.length) (hm : m < (rowG g v).length) (hx : (rowG g v)[m] = (y : Int)) (hyg : y < (rowsF g.length (revF g v m)).length) : (rowsF g.length (revF g v m)).set y ((rowsF g.length (revF g v m))[y] ++ [(v : Int)]) = rowsF g.length (revF g v (m + 1)) := by
  rw [rowsF_at]
  have hs : (rowG g v).Pairwise (· < ·) := by rw [rowG_at hv]; exact validG_sorted' hg hv
  refine rowsF_set ?_ fun i hi => ?_
  · unfold revF
    have hn : (y : Int) ∉ (rowG g v).take m := fun h => by
      obtain ⟨j, hj, e⟩ := List.mem_iff_getElem.1 h
      rw [List.getElem_take] at e
      have hjm : j < m := by rw [List.length_take] at hj; omega
      have := List.pairwise_iff_getElem.1 hs j m (by omega) hm hjm
      omega
    rw [List.take_succ_eq_append_getElem hm, hx, if_neg hn, if_pos (by simp)]
    simp
  · unfold revF
    rw [List.take_succ_eq_append_getElem hm, hx]
    have hne : (i : Int) ≠ y := by omega
    congr 1
    by_cases h : (i : Int) ∈ (rowG g v).take m
    · rw [if_pos h, if_pos (by simp [h])]
    · rw [if_neg h, if_neg (by simp [h, hne])]
theorem revF_short (g : GraphD) (v m x : Nat) : (revF g v m x).length ≤ v + 1 := by
  unfold revF
  have := intoK_short g v x
  rw [List.length_append]
  split <;> simp <;> omega
def revL (g : GraphD) : GraphD := if validG g then revG g else []
def revE (g : GraphD) : Int := if validG g then 0 else 20
end Go.Proofs.Ytkgnblnhfjjjmaa
namespace Go.Proofs.Ytkgnblnhfjjjmaa
open Go Go.RowKit Fl

def FromRes (w : World) (l : List Bool) (k : Int) (e : Ending) (w' : World) : Prop := ∃ A c, e = .returned (.tuple #[.slice A l.length c, .int .i64 k]) ∧ Holds w' A (l.map Bo) ∧ Below w.heap.size w w'
def GraphRes (w : World) (l : GraphD) (k : Int) (e : Ending) (w' : World) : Prop := ∃ A c, e = .returned (.tuple #[.slice A l.length c, .int .i64 k]) ∧ RowsAt w' A l ∧ Below w.heap.size w w'
def Sized (g : GraphD) : Prop := g.length ≤ 1000000000000000000 ∧ ∀ r ∈ g, r.length ≤ 1000000000000000000
theorem Sized.valid {g : GraphD} (h : validG g = true) : Sized g := ⟨by have := validG_len h; omega, fun r hr => by have := validG_short h r hr; omega⟩
def DevValid : Prop := ∀ (A : Option Addr) (c : Nat) (g : GraphD) (w : World), RowsAt w A g → Sized g →
  Calls Try.prog 45 #[.slice A g.length c] w fun e w' => e = .returned (.bool (validG g)) ∧ Below w.heap.size w w'
def DevReverse : Prop := ∀ (A : Option Addr) (c : Nat) (g : GraphD) (w : World), RowsAt w A g → Sized g →
  Calls Try.prog 30 #[.slice A g.length c] w (GraphRes w (revL g) (revE g))
def DevWithout : Prop := ∀ (A B : Option Addr) (c d : Nat) (g : GraphD) (s : List Bool) (w : World), RowsAt w A g → Holds w B (s.map Bo) → Sized g →
  Calls Try.prog 27 #[.slice A g.length c, .slice B s.length d] w (GraphRes w (woL g s) (chkG g s.length))
end Go.Proofs.Ytkgnblnhfjjjmaa
namespace Go.Proofs.Ytkgnblnhfjjjmaa
open Go.RowKit

theorem cut0_c (v n : Int) (w : World) (h1 : n ≤ 0) (hn : -1000000 ≤ n) (_ : -9223372036854775808 ≤ v) (_ : v ≤ 9223372036854775807) : Calls Try.prog 20 #[.int .i64 v, .int .i64 n] w fun e w' => CutPost 1 e w w' := by
  go_enter Try.func20, Try.ntmps20
  go_wp2
  go_ret
  exact ⟨0, by omega, rfl, rfl⟩
set_option maxHeartbeats 1000000 in
theorem next0_c (B g T : Nat) (n : Int) (w : World) (ht : TapeOk w B g T) (hT : T ≤ 1000000000) (h1 : n ≤ 0) (hn : -1000000 ≤ n) : Calls Try.prog 11 #[.pointer (some ⟨g, 0, none⟩), .int .i64 n] w (NextPost B g T 1 w) := by
  obtain ⟨A, len, c, at_, zs, hh, hlen, hat, hBg, hmax, hcells⟩ := ht
  unfold maxLen at hmax
  have hHH := Lib.hid hh
  have hlt := block_lt hh
  have c0 : w.cell? ⟨g, 0, none⟩ = some (.slice A len c) := by rw [cell_of_row w g 0 _ _ (0, 0) hh]; rfl
  have c1 : w.cell? ⟨g, 1, none⟩ = some (.int .i64 at_) := by rw [cell_of_row w g 1 _ _ (0, 0) hh]; rfl
  have hfz : w.frozen? ⟨g, 1, none⟩ = false := by simp [World.frozen?, hh]
  clear hh
  have HC := Lib.hid hcells
  by_cases hin : at_ < len
  · obtain ⟨b, o, rfl, _, hc⟩ := hcells (by omega)
    obtain ⟨e1, e2, e3⟩ := hc at_ (by omega)
    have HL := Lib.hid hlen
    clear hc hcells
    generalize zs[at_] = z at *
    clear hlen
    go_enter Try.func11, Try.ntmps11
    go_wp2
    go_quiet (fail)
    go_wp2
    go_quiet (fail)
    go_wp2_with fail
    refine (cut0_c _ _ _ h1 hn e2 e3).mono ?_
    rintro e w1 ⟨r, hr, rfl, rfl⟩
    go_wp2_with fail
    go_ret
    have hts := fun q => tape_step (nq := q) hHH.out HL.out hat hBg hmax HC.out
    exact ⟨r, hr, rfl, (hts _).1, (hts _).2⟩
  · clear hcells
    go_enter Try.func11, Try.ntmps11
    go_wp2
    go_quiet (fail)
    go_wp2_with fail
    refine (cut0_c _ _ _ h1 hn (by omega) (by omega)).mono ?_
    rintro e w1 ⟨r, hr, rfl, rfl⟩
    go_wp2_with fail
    go_ret
    obtain ⟨h2, h3⟩ := tape_step (nq := nq) hHH.out hlen hat hBg hmax HC.out
    exact ⟨r, hr, rfl, h2, h3⟩
/-- The list of numbers that an argument holds. -/
def IntsAt (w : World) (B : Nat) (A : Option Addr) (zs : List Int) : Prop :=
  0 < zs.length → ∃ b o, A = some ⟨b, o, none⟩ ∧ b < B ∧ ∀ j (h : j < zs.length), w.cell? ⟨b, o + j, none⟩ = some (.int .i64 zs[j]) ∧ -9223372036854775808 ≤ zs[j] ∧ zs[j] ≤ 9223372036854775807
theorem tape_new {w w1 : World} {B : Nat} {A : Option Addr} {c : Nat} {zs : List Int} (h : IntsAt w B A zs) (hB : B ≤ w.heap.size) (hb : Below w.heap.size w w1) (hl : zs.length ≤ maxLen) :
    TapeOk (w1.alloc (.cells #[.slice A zs.length c, .int .i64 0] 28)) B w1.heap.size 0 := by
  refine ⟨A, zs.length, c, 0, zs, heap_alloc_new w1 _, rfl, Nat.le_refl _, by have := hb.size; omega, hl, fun hn => ?_⟩
  obtain ⟨b, o, hA, hlt, hc⟩ := h hn
  refine ⟨b, o, hA, hlt, fun j hj => ⟨?_, (hc j hj).2⟩⟩
  have hbb : Below w.heap.size w (w1.alloc (.cells #[.slice A zs.length c, .int .i64 0] 28)) := hb.alloc hb.size _
  rw [hbb.cell (p := ⟨b, o + j, none⟩) (by show b < _; omega)]
  exact (hc j hj).1
theorem IntsAt.keep {w w' : World} {B : Nat} {A : Option Addr} {zs : List Int} (h : IntsAt w B A zs) (hB : B ≤ w.heap.size) (hb : Below w.heap.size w w') : IntsAt w' B A zs := fun hn => by
  obtain ⟨b, o, hA, hlt, hc⟩ := h hn
  exact ⟨b, o, hA, hlt, fun j hj => ⟨(hb.cell (p := ⟨b, o + j, none⟩) (by show b < _; omega)).trans (hc j hj).1, (hc j hj).2⟩⟩
theorem IntsAt.more {w : World} {B B' : Nat} {A : Option Addr} {zs : List Int} (h : IntsAt w B A zs) (hB : B ≤ B') : IntsAt w B' A zs := fun hn => by
  obtain ⟨b, o, hA, hlt, hc⟩ := h hn
  exact ⟨b, o, hA, by omega, hc⟩
end Go.Proofs.Ytkgnblnhfjjjmaa
namespace Go.Proofs.Ytkgnblnhfjjjmaa
open Go Go.RowKit Fl

theorem chkG_ok {g : GraphD} {m : Nat} (hg : validG g = true) (hm : m = g.length) : chkG g m = 0 := by unfold chkG; rw [hg, hm]; simp
theorem reverse_ok (hR : DevReverse) {A : Option Addr} {c n : Nat} {g : GraphD} {W : World} (hr : RowsAt W A g) (hg : validG g = true) (hn : g.length = n) :
    Calls Try.prog 30 #[.slice A n c] W fun e w' => ∃ X cx, e = .returned (.tuple #[.slice X n cx, .int .i64 0]) ∧ RowsAt w' X (revG g) ∧ Below W.heap.size W w' := by
  have h := hR A c g W hr (Sized.valid hg)
  have h1 : revL g = revG g := by unfold revL; rw [if_pos hg]
  have h2 : revE g = 0 := by unfold revE; rw [if_pos hg]
  rw [h1, h2, hn] at h
  refine h.mono fun e w' ⟨X, cx, h3, h4⟩ => ⟨X, cx, ?_, h4⟩
  rw [h3, revG_length, hn]
theorem without_ok (hW : DevWithout) {A B : Option Addr} {c d n : Nat} {g : GraphD} {s : List Bool} {W : World} (hr : RowsAt W A g) (hs : Holds W B (s.map Bo)) (hg : validG g = true) (hn : g.length = n) (hsl : s.length = n) :
    Calls Try.prog 27 #[.slice A n c, .slice B n d] W fun e w' => ∃ X cx, e = .returned (.tuple #[.slice X n cx, .int .i64 0]) ∧ RowsAt w' X (woG g s) ∧ Below W.heap.size W w' := by
  have h := hW A B c d g s W hr hs (Sized.valid hg)
  have h0 := chkG_ok (m := s.length) hg (by omega)
  have h1 : woL g s = woG g s := by unfold woL; rw [if_pos h0]
  rw [h1, h0, hsl, hn] at h
  refine h.mono fun e w' ⟨X, cx, h3, h4⟩ => ⟨X, cx, ?_, h4⟩
  rw [h3, woG_length, hn]
theorem reach_at {g : GraphD} {s : List Bool} {w : World} {X : Option Addr} {a k n : Nat} (hn : g.length = n) (h : Holds w X ((reachL g s a).map Bo)) (hk : k < n) : ∃ b o z, X = some ⟨b, o, none⟩ ∧ w.cell? ⟨b, o + k, none⟩ = some (.bool z) ∧ (z = true ↔ PathG g s a k) := by
  have hk' : k < (reachL g s a).length := by rw [reachL_length]; omega
  obtain ⟨b, o, h1, h2⟩ := h.bo hk'
  refine ⟨b, o, _, h1, h2, ?_⟩
  rw [← atB_at hk']
  exact reachL_at (by omega)
theorem marks_at {s : List Bool} {w : World} {B : Option Addr} {k : Nat} (h : Holds w B (s.map Bo)) (hk : k < s.length) : ∃ b o, B = some ⟨b, o, none⟩ ∧ w.cell? ⟨b, o + k, none⟩ = some (.bool (atB s k)) := by
  obtain ⟨b, o, h1, h2⟩ := h.bo hk
  exact ⟨b, o, h1, by rw [atB_at hk]; exact h2⟩
theorem Still.grown {g : Nat} {a b : World} (h : Still g a.heap.size a b) : a.grownBy b (some g) :=
  ⟨h.os, h.tape, h.output, h.size, fun k hk hne => h.block k hk (fun e => hne (by rw [e]))⟩
end Go.Proofs.Ytkgnblnhfjjjmaa

/- Contracts of the reference of layer 16: AtRest, Same, Footprint. -/
import Derived.Test.YtjbhmeeebacnpaaPnMem
import Derived.BigQuiet
namespace Go.Proofs.Ytjbhmeeebacnpaa
open Go Go.RowKit Fl

theorem below_newB (w : World) (o : Obj) : Below w.heap.size w (w.alloc o) := (Below.refl _ _).alloc (Nat.le_refl _) _
set_option maxRecDepth 100000 in
set_option maxHeartbeats 1000000 in
theorem refRest_c (b : BodD) (w : World) : Calls Try.prog 52 #[BV b] w fun e w' => e = .returned (.bool (restB b)) ∧ Below w.heap.size w w' := by
  have HB := Lib.hid (below_newB w (.cells (BC b) 40))
  obtain ⟨cel, dst, srv, flt⟩ := b
  obtain ⟨z, hz⟩ : ∃ z, restB ⟨cel, dst, srv, flt⟩ = z := ⟨_, rfl⟩
  rw [hz]
  have HZ : Hid (z = (cel != -1 && dst == -1 && !srv && !flt)) := Lib.hid hz.symm
  clear hz
  by_cases h1 : cel = -1
  · have HR : Hid (z = false) := Lib.hid (by rw [HZ.out]; simp [h1])
    have h1' : (cel != -1) = false := by simpa using h1
    clear HZ h1
    go_enter Try.func52, Try.ntmps52
    go_wp2
    go_ret
    exact ⟨gr_bool HR.out.symm, HB.out⟩
  · have h1' : (cel != -1) = true := by simpa using h1
    by_cases h2 : dst = -1
    · have h2' : (dst == -1) = true := by simpa using h2
      rcases srv with _ | _
      · rcases flt with _ | _
        · have HR : Hid (z = true) := Lib.hid (by rw [HZ.out]; simp [h1, h2])
          clear HZ h1 h2
          go_enter Try.func52, Try.ntmps52
          go_wp2
          go_ret
          exact ⟨gr_bool HR.out.symm, HB.out⟩
        · have HR : Hid (z = false) := Lib.hid (by rw [HZ.out]; simp)
          clear HZ h1 h2
          go_enter Try.func52, Try.ntmps52
          go_wp2
          go_ret
          exact ⟨gr_bool HR.out.symm, HB.out⟩
      · have HR : Hid (z = false) := Lib.hid (by rw [HZ.out]; simp)
        clear HZ h1 h2
        go_enter Try.func52, Try.ntmps52
        go_wp2
        go_ret
        exact ⟨gr_bool HR.out.symm, HB.out⟩
    · have h2' : (dst == -1) = false := by simpa using h2
      have HR : Hid (z = false) := Lib.hid (by rw [HZ.out]; simp [h2])
      clear HZ h1 h2
      go_enter Try.func52, Try.ntmps52
      go_wp2
      go_ret
      exact ⟨gr_bool HR.out.symm, HB.out⟩
set_option maxRecDepth 100000 in
set_option maxHeartbeats 1000000 in
/-- Same of two equal lists. -/
theorem refSameB_c (A1 A2 : Option Addr) (c1 c2 n : Nat) (l : List BodD) (hn : l.length = n) (w : World) (h1 : Holds w A1 (bodS.cs l)) (h2 : Holds w A2 (bodS.cs l)) (hl : n ≤ 1000000000000000000) :
    Calls Try.prog 15 #[.slice A1 n c1, .slice A2 n c2] w fun e w' => e = .returned (.bool true) ∧ ∃ q, w' = w.drewN q := by
  have H1 := Lib.hid h1
  have H2 := Lib.hid h2
  have HN := Lib.hid hn
  have hgd := guard_bod
  clear h1 h2 hn
  go_enter Try.func15, Try.ntmps15
  go_wp2
  go_loopw [5] (fun i wr => ∃ j q : Nat, i = .int .i64 j ∧ j ≤ n ∧ wr = w.drewN q) (fun i _ => n - (intOf i).toNat)
  case atStart => exact ⟨0, 0, rfl, Nat.zero_le _, rfl⟩
  case round =>
    obtain ⟨j, q, rfl, hj, rfl⟩ := hrel
    by_cases hlt : j < n
    · obtain ⟨b1, o1, rfl, _, a1⟩ := StK.holds_at H1.out (i := j) (by rw [HN.out]; exact hlt)
      obtain ⟨b2, o2, rfl, _, a2⟩ := StK.holds_at H2.out (i := j) (by rw [HN.out]; exact hlt)
      obtain ⟨x0, x1, x2, x3⟩ := bod_cells a1
      obtain ⟨y0, y1, y2, y3⟩ := bod_cells a2
      have hef := fun W => bod_eq (l[j]'(by rw [HN.out]; exact hlt)) (l[j]'(by rw [HN.out]; exact hlt)) W
      simp only [decide_true] at hef
      generalize l[j]'(by rw [HN.out]; exact hlt) = f at *
      obtain ⟨cel, dst, srv, flt⟩ := f
      dsimp only at x0 x1 x2 x3 y0 y1 y2 y3
      have hjl : (j : Int) < (n : Int) := by omega
      rw [show bodS.k = 4 from rfl] at x0 x1 x2 x3 y0 y1 y2 y3
      clear a1 a2 H1 H2
      go_wp2
      go_quiet (fail)
      go_wp2
      go_roundw
      case rel => exact ⟨j + 1, _, by go_num, by omega, rfl⟩
      case measure => simp [intOf]; omega
    · go_wp2
      go_ret
      exact ⟨rfl, _, rfl⟩
set_option maxRecDepth 100000 in
set_option maxHeartbeats 1000000 in
theorem refFp_c (b : BodD) (w : World) : Calls Try.prog 20 #[BV b] w fun e w' => ∃ u, e = .returned u ∧ w'.ownsRow w.heap.size 3 1 u (fpB b).length ((fpB b).map (fun z => Value.int .i64 z)) ∧ Below w.heap.size w w' := by
  have HB := Lib.hid (below_newB w (.cells (BC b) 40))
  obtain ⟨cel, dst, srv, flt⟩ := b
  have hsz : w.heap.size ≤ (w.alloc (.cells #[.int .i64 cel, .int .i64 dst, .bool srv, .bool flt] 40)).heap.size := by simp
  have HL10 := World.ownsRow_lit (base := w.heap.size) (e := 3) (size := 1) (w.alloc (.cells #[.int .i64 cel, .int .i64 dst, .bool srv, .bool flt] 40)) #[Value.int .i64 cel] 1 hsz (by unfold maxLen; omega) rfl
  rw [show (w.alloc (.cells #[.int .i64 cel, .int .i64 dst, .bool srv, .bool flt] 40)).heap.size = w.heap.size + 1 by simp] at HL10
  have HL1 := Lib.hid HL10
  clear HL10
  have HL20 := World.ownsRow_lit (base := w.heap.size) (e := 3) (size := 1) (w.alloc (.cells #[.int .i64 cel, .int .i64 dst, .bool srv, .bool flt] 40)) #[Value.int .i64 (min cel dst), Value.int .i64 (max cel dst)] 2 hsz (by unfold maxLen; omega) rfl
  rw [show (w.alloc (.cells #[.int .i64 cel, .int .i64 dst, .bool srv, .bool flt] 40)).heap.size = w.heap.size + 1 by simp] at HL20
  have HL2 := Lib.hid HL20
  clear HL20
  by_cases h1 : cel = -1
  · have e : fpB ⟨cel, dst, srv, flt⟩ = [] := if_pos h1
    rw [e]
    have h1' : (cel == -1) = true := by simpa using h1
    clear e h1 HL1 HL2
    go_enter Try.func20, Try.ntmps20
    go_wp2
    go_ret
    exact ⟨_, rfl, World.ownsRow_nil _ _ _ _, HB.out⟩
  · have h1' : (cel == -1) = false := by simpa using h1
    by_cases h2 : dst = -1
    · have e : fpB ⟨cel, dst, srv, flt⟩ = [cel] := by unfold fpB; rw [if_neg h1, if_pos (.inl h2)]
      rw [e]
      have h2' : (dst == -1) = true := by simpa using h2
      clear e h1 h2 HL2
      go_enter Try.func20, Try.ntmps20
      go_wp2
      go_ret
      exact ⟨_, rfl, HL1.out, HB.out.alloc hsz _⟩
    · have h2' : (dst == -1) = false := by simpa using h2
      by_cases h3 : dst = cel
      · have e : fpB ⟨cel, dst, srv, flt⟩ = [cel] := by unfold fpB; rw [if_neg h1, if_pos (.inr h3)]
        rw [e]
        have h3' : (dst == cel) = true := by simpa using h3
        clear e h1 h2 h3 HL2
        go_enter Try.func20, Try.ntmps20
        go_wp2
        go_ret
        exact ⟨_, rfl, HL1.out, HB.out.alloc hsz _⟩
      · have e : fpB ⟨cel, dst, srv, flt⟩ = [min cel dst, max cel dst] := by
          unfold fpB
          rw [if_neg h1, if_neg (fun h => h.elim h2 h3)]
        rw [e]
        have h3' : (dst == cel) = false := by simpa using h3
        clear e h1 h2 h3 HL1
        go_enter Try.func20, Try.ntmps20
        go_wp2
        go_ret
        exact ⟨_, rfl, HL2.out, HB.out.alloc hsz _⟩
end Go.Proofs.Ytjbhmeeebacnpaa

/- Joined texts. -/
import Derived.Test.YtjbhmeeebacnpaaMzAJ
import Derived.Test.YtjbhmeeebacnpaaPkDo
import Derived.Test.YtjbhmeeebacnpaaMzAW
import Derived.Test.YtjbhmeeebacnpaaMzAG
import Derived.Test.YtjbhmeeebacnpaaMzAS
import Derived.Test.YtjbhmeeebacnpaaMzAF
import Derived.Test.YtjbhmeeebacnpaaMzAD
import Derived.Test.YtjbhmeeebacnpaaMzAE
import Derived.Test.YtjbhmeeebacnpaaMzAC
namespace Go.Proofs.Ytjbhmeeebacnpaa
open Go Go.RowKit Fl

theorem Try.infoBoolS : (Try.prog.info? 4).map (fun i => (i.zero, i.size, i.bytes)) = some (some (.bool false), 1, 1) := by kernel_rfl
theorem own_but {w w' : World} {base q n : Nat} {e : TypeId} {v : Value} {xs : List Value} (h : w.ownsRow base e 1 v n xs) (hw : w.grownBy w' (some q)) (hq : q < base) : w'.ownsRow base e 1 v n xs := by
  obtain ⟨h1, hr⟩ := h
  refine ⟨h1, ?_⟩
  rcases hr with hr | ⟨b, cap, cur, hv, hgb, hh, hrest⟩
  · exact .inl hr
  · exact .inr ⟨b, cap, cur, hv, hgb, (hw.block b (block_lt hh) (fun e => by injection e with e; omega)).trans hh, hrest⟩
/-- What Shut returns. -/
def ShutPost (w : World) (B gt T n : Nat) (e : Ending) (w' : World) : Prop := ∃ (v : Value) (s : List Bool), e = .returned v ∧ s.length = n ∧ w'.ownsRow w.heap.size 4 1 v n (s.map Bo) ∧ TapeOk w' B gt (T + 1000) ∧ Still gt w.heap.size w w'
set_option maxRecDepth 100000 in
set_option maxHeartbeats 1000000 in
theorem sameIntsE_c (A1 A2 : Option Addr) (c1 c2 : Nat) (xs : List Int) (w : World) (h1 : Holds w A1 (xs.map Iv)) (h2 : Holds w A2 (xs.map Iv)) (hl : xs.length ≤ 1000000000000000000) :
    Calls Try.prog 18 #[.slice A1 xs.length c1, .slice A2 xs.length c2] w fun e w' => e = .returned (.bool true) ∧ ∃ n, w' = w.drewN n := by
  have H1 := Lib.hid h1
  have H2 := Lib.hid h2
  have hne : ((xs.length : Int) != (xs.length : Int)) = false := by simp
  clear h1 h2
  go_enter Try.func18, Try.ntmps18
  go_wp2
  go_loopw [5] (fun i wr => ∃ k n : Nat, i = .int .i64 k ∧ k ≤ xs.length ∧ wr = w.drewN n) (fun i _ => xs.length - (intOf i).toNat)
  case atStart => exact ⟨0, 0, rfl, Nat.zero_le _, rfl⟩
  case round =>
    obtain ⟨k, n, rfl, hk, rfl⟩ := hrel
    by_cases hlt : k < xs.length
    · obtain ⟨b1, o1, rfl, e1⟩ := H1.out.iv hlt
      obtain ⟨b2, o2, rfl, e2⟩ := H2.out.iv hlt
      have hnn : (xs[k] != xs[k]) = false := by simp
      generalize xs[k] = x at *
      clear H1 H2
      go_wp2
      go_quiet (fail)
      go_wp2
      go_roundw
      case rel => exact ⟨k + 1, _, by go_num, by omega, rfl⟩
      case measure => simp [intOf]; omega
    · clear H1 H2
      go_wp2
      go_ret
      exact ⟨rfl, n, rfl⟩
end Go.Proofs.Ytjbhmeeebacnpaa
namespace Go.Proofs.Ytjbhmeeebacnpaa
open Go Go.RowKit Fl

theorem lit_holdsB (w : World) (cs : Array Value) (e : TypeId) (l : List Value) (hl : cs.toList = l) : Holds (w.alloc (.cells cs e)) (some ⟨w.heap.size, 0, none⟩) l := by
  subst hl
  refine .inr ⟨w.heap.size, 0, rfl, by simp, fun j hj => ?_⟩
  rw [Nat.zero_add, cell_of_row _ _ _ _ _ _ (heap_alloc_new w _)]
  simp
abbrev kB : List BodD := [⟨0, 1, false, false⟩, ⟨-1, -1, false, false⟩]
abbrev kC : List BodD := [⟨0, 1, false, false⟩, ⟨1, -1, false, false⟩]
theorem k16 : doE false kB 1 0 1 = 0 ∧ doL false kB 1 0 1 = kC := by decide
theorem k16c : clashV kC = .tuple #[.int .i64 0, .int .i64 1, .bool true] := rfl
theorem k16f : fpB ⟨0, 1, false, false⟩ = [0, 1] := by decide
set_option maxRecDepth 100000 in
set_option maxHeartbeats 2000000 in
theorem known16_c (w : World) : Calls Try.prog 7 #[] w fun e w' => e = .returned (.bool true) ∧ Below w.heap.size w w' := by
  have HB0 := Lib.hid (below_newB w (.cells #[.int .i64 0, .int .i64 1, .bool false, .bool false, .int .i64 (-1), .int .i64 (-1), .bool false, .bool false] 40))
  have HH0 : Holds (w.alloc (.cells #[.int .i64 0, .int .i64 1, .bool false, .bool false, .int .i64 (-1), .int .i64 (-1), .bool false, .bool false] 40)) (some ⟨w.heap.size, 0, none⟩) (bodS.cs kB) := lit_holdsB w _ _ _ rfl
  have hC := devPut_c (some ⟨w.heap.size, 0, none⟩) 2 2 kB rfl 1 1 false _ HH0 (by decide)
  rw [k16.1, k16.2] at hC
  have HC := Lib.hid hC
  have HK : Hid (∀ A c W, Holds W A (bodS.cs kC) → Calls Try.prog 16 #[.slice A 2 c] W fun e w' => e = .returned (.tuple #[.int .i64 0, .int .i64 1, .bool true]) ∧ Below W.heap.size W w') := Lib.hid (fun A c W h => by
    have := devClash_c A c 2 kC rfl W h (by decide) (fun b hb => by
      simp only [List.mem_cons, List.not_mem_nil, or_false] at hb
      rcases hb with rfl | rfl <;> exact ⟨by decide, by decide⟩)
    rwa [k16c] at this)
  have HF := Lib.hid (fun W => devFp_c ⟨0, 1, false, false⟩ W)
  rw [k16f] at HF
  clear hC HH0
  go_enter Try.func7, Try.ntmps7
  go_wp2_with fail
  generalize w.alloc (.cells #[.int .i64 0, .int .i64 1, .bool false, .bool false, .int .i64 (-1), .int .i64 (-1), .bool false, .bool false] 40) = w1 at *
  refine HC.out.mono ?_
  rintro e w2 ⟨v, rfl, ho2, hb2⟩
  obtain ⟨A2, c2, rfl, hc2⟩ := ho2.form
  have HH2 : Hid (Holds w2 A2 (bodS.cs kC)) := Lib.hid (ownsRow_holds ho2)
  have HB2 := Lib.hid (HB0.out.trans (hb2.mono HB0.out.size))
  clear ho2 hb2 HC HB0
  go_wp2_with fail
  refine (HK.out A2 c2 w2 HH2.out).mono ?_
  rintro e w3 ⟨rfl, hb3⟩
  have HH3 := Lib.hid (HH2.out.keep hb3)
  have HB3 := Lib.hid (HB2.out.trans (hb3.mono HB2.out.size))
  obtain ⟨b, o, rfl, _, a1⟩ := StK.holds_at HH3.out (i := 0) (by decide)
  obtain ⟨x0, x1, x2, x3⟩ := bod_cells a1
  simp only [Nat.zero_mul, Nat.add_zero, List.getElem_cons_zero] at x0 x1 x2 x3
  clear hb3 HK HH2 HB2 a1
  go_wp2_with fail
  refine (HF.out w3).mono ?_
  rintro e w4 ⟨u, rfl, ho4, hb4⟩
  obtain ⟨A4, c4, rfl⟩ := own_sliceC ho4
  have HB4 := Lib.hid (HB3.out.trans (hb4.mono HB3.out.size))
  have HS : Hid (Calls Try.prog 18 #[.slice A4 2 c4, .slice (some ⟨w4.heap.size, 0, none⟩) 2 2] (w4.alloc (.cells #[.int .i64 0, .int .i64 1] 3)) fun e w' => e = .returned (.bool true) ∧ ∃ n, w' = (w4.alloc (.cells #[.int .i64 0, .int .i64 1] 3)).drewN n) := Lib.hid (sameIntsE_c A4 (some ⟨w4.heap.size, 0, none⟩) c4 2 [0, 1] _ ((ownsRow_holds ho4).keep (below_newB _ _)) (lit_holdsB _ _ _ _ rfl) (by decide))
  have HB5 := Lib.hid (HB4.out.alloc HB4.out.size (.cells #[.int .i64 0, .int .i64 1] 3))
  clear ho4 hb4 HF HB3 HB4 HH3
  go_wp2_with fail
  refine HS.out.mono ?_
  rintro e w5 ⟨rfl, n5, rfl⟩
  clear HS
  go_wp2
  go_ret
  exact ⟨by first | rfl | simp, below_drewN HB5.out _⟩
end Go.Proofs.Ytjbhmeeebacnpaa
namespace Go.Proofs.Ytjbhmeeebacnpaa
open Go Go.RowKit Fl

theorem NetOk.count {N : NetD} (h : NetOk N) : ∃ c : Nat, cellsN N = c ∧ 1 ≤ c ∧ c ≤ 48 := by
  have h1 := slotsK_bounds (l := N.spurs) (fun s hs => by have := (h.spurOk s hs).slots; omega) N.spurs.length (Nat.le_refl _)
  have h2 := h.some
  have h3 := h.few
  have h4 := h.spurs6
  refine ⟨(cellsN N).toNat, ?_, ?_, ?_⟩ <;> unfold cellsN <;> omega
theorem NextIs.ne {N : NetD} (hok : NetOk N) {c : Int} {xs : List Int} (h : NextIs N c xs) : ∀ x ∈ xs, x ≠ c := by
  rcases h with ⟨b, hb, hb', rfl, rfl⟩ | ⟨k, hk, h1, h2, rfl⟩
  · intro x hx
    rcases List.mem_append.1 hx with hx | hx
    · exact (validG_row hok.graph hb' x hx).2.2
    · unfold spurBases at hx
      obtain ⟨s, hs, rfl⟩ := List.mem_map.1 hx
      obtain ⟨k, hk, rfl⟩ := List.mem_iff_getElem.1 (List.mem_filter.1 hs).1
      have hbk := hok.bases k hk
      have h3 := (slotsK_bounds (l := N.spurs) (fun s hs => by have := (hok.spurOk s hs).slots; omega) k (by omega)).1
      omega
  · intro x hx
    rw [List.mem_singleton] at hx
    subst hx
    have hbk := hok.bases k hk
    have h3 := (slotsK_bounds (l := N.spurs) (fun s hs => by have := (hok.spurOk s hs).slots; omega) k (by omega)).1
    have h4 := (hok.spurOk _ (List.getElem_mem hk)).out
    split <;> omega
/-- What the landed cells says of a cell of a valid network. -/
theorem nextMade (Ab An As Ar : Option Addr) (cb cn cs cr : Nat) (N : NetD) (c : Int) (w : World) (hN : NetAt w Ab An As Ar N) (hok : NetOk N) (hcr : N.robots.length ≤ cr) (hc : inN N c) :
    ∃ xs : List Int, xs.length ≤ 24 ∧ (∀ x ∈ xs, inN N x ∧ x ≠ c) ∧ (∀ W, Below w.heap.size w W → Calls Try.prog 24 #[.agg #[.slice Ab N.blocks.length cb, .slice An N.next.length cn, .slice As N.spurs.length cs, .slice Ar N.robots.length cr, Iv N.queue, Iv N.aging, Iv N.detours, Iv N.patience], .int .i64 c] W (NextPost2 W xs)) ∧
      ∀ z W, Below w.heap.size w W → Calls Try.prog 26 #[.agg #[.slice Ab N.blocks.length cb, .slice An N.next.length cn, .slice As N.spurs.length cs, .slice Ar N.robots.length cr, Iv N.queue, Iv N.aging, Iv N.detours, Iv N.patience], .int .i64 c, .int .i64 z] W fun e w' => e = .returned (.bool (decide (z ∈ xs))) ∧ Below W.heap.size W w' := by
  obtain ⟨xs, hx, h24, hin⟩ := hok.nextIs hc
  have hN2 := fun W (hW : Below w.heap.size w W) => devNextIs_c Ab An As Ar cb cn cs cr N c xs W (hN.keep hW) hok hcr hx
  exact ⟨xs, h24, fun x h => ⟨hin x h, hx.ne hok x h⟩, hN2, fun z W hW => follows_c Ab An As Ar cb cn cs cr N c z xs W h24 (fun W2 hW2 => hN2 W2 (hW.trans (hW2.mono hW.size)))⟩
/-- A made network, the tape, and a list of bodies beside them. -/
structure PN (w w2 : World) (gt T X top : Nat) (N : NetD) (Ab An As Ar : Option Addr) (cb cn cs cr : Nat) (v : Value) (l : List BodD) (wr : World) : Prop where
  made : MadeN w w2 gt T X top N Ab An As Ar cb cn cs cr wr
  own : bodS.Own wr (gt + 1) v l
section
variable {w w2 wr w' : World} {gt T T' X top : Nat} {N : NetD} {Ab An As Ar : Option Addr} {cb cn cs cr : Nat} {v v' : Value} {l l' : List BodD}
theorem PN.next (h : PN w w2 gt T X top N Ab An As Ar cb cn cs cr v l wr) (ht : TapeOk w' w.heap.size gt T') (hg : wr.grownBy w' (some gt)) : PN w w2 gt T' X top N Ab An As Ar cb cn cs cr v l w' :=
  ⟨h.made.still ht (Still.of_grown hg (Nat.le_refl _)), h.own.far hg (by omega)⟩
theorem PN.keep (h : PN w w2 gt T X top N Ab An As Ar cb cn cs cr v l wr) (hb : Below wr.heap.size wr w') : PN w w2 gt T X top N Ab An As Ar cb cn cs cr v l w' :=
  ⟨h.made.keep hb, h.own.keep hb⟩
theorem PN.drew (h : PN w w2 gt T X top N Ab An As Ar cb cn cs cr v l wr) : PN w w2 gt T X top N Ab An As Ar cb cn cs cr v l wr.drew := h.keep (Below.refl _ _).drew
theorem PN.drewN {n : Nat} (h : PN w w2 gt T X top N Ab An As Ar cb cn cs cr v l wr) : PN w w2 gt T X top N Ab An As Ar cb cn cs cr v l (wr.drewN n) := h.keep (below_drewN (Below.refl _ _) n)
theorem PN.low (h : PN w w2 gt T X top N Ab An As Ar cb cn cs cr v l wr) : gt < wr.heap.size := by
  have h1 := h.made.lowG
  have h2 := block_lt h.made.box
  have h3 := h.made.lowX
  omega
/-- The list is replaced by one of a call. -/
theorem PN.put (h : PN w w2 gt T X top N Ab An As Ar cb cn cs cr v l wr) (hb : Below wr.heap.size wr w') (ho : bodS.Own w' wr.heap.size v' l') : PN w w2 gt T X top N Ab An As Ar cb cn cs cr v' l' w' :=
  ⟨h.made.keep hb, ho.base (by have := h.low; omega)⟩
theorem PN.more (h : PN w w2 gt T X top N Ab An As Ar cb cn cs cr v l wr) (hT : T ≤ T') : PN w w2 gt T' X top N Ab An As Ar cb cn cs cr v l wr :=
  ⟨h.made.still (h.made.nm.tape.more hT) (Still.refl _ _ _), h.own⟩
theorem PN.holds {A : Option Addr} {c : Nat} (h : PN w w2 gt T X top N Ab An As Ar cb cn cs cr (.slice A l.length c) l wr) : Holds wr A (bodS.cs l) := ownsRow_holds h.own
theorem PN.box (h : PN w w2 gt T X top N Ab An As Ar cb cn cs cr v l wr) : wr.cell? ⟨X, 0, none⟩ = some (.slice Ab N.blocks.length cb) ∧ wr.cell? ⟨X, 1, none⟩ = some (.slice An N.next.length cn) ∧ wr.cell? ⟨X, 2, none⟩ = some (.slice As N.spurs.length cs) ∧ wr.cell? ⟨X, 3, none⟩ = some (.slice Ar N.robots.length cr) ∧ wr.cell? ⟨X, 4, none⟩ = some (Iv N.queue) ∧ wr.cell? ⟨X, 5, none⟩ = some (Iv N.aging) ∧ wr.cell? ⟨X, 6, none⟩ = some (Iv N.detours) ∧ wr.cell? ⟨X, 7, none⟩ = some (Iv N.patience) := by
  have k := boxAt_of h.made.box
  exact ⟨k.c0, k.c1, k.c2, k.c3, k.c4, k.c5, k.c6, k.c7⟩
theorem PN.body {b : Nat} {q : BodD} (_h : PN w w2 gt T X top N Ab An As Ar cb cn cs cr v l wr) (hb : BodAt wr b q) (hg : wr.grownBy w' (some gt)) (hne : b ≠ gt) : BodAt w' b q := hb.grown hg (fun e => by injection e with e; exact hne e.symm)
end
/-- What one body of a list holds. -/
theorem one_cells {w : World} {A : Option Addr} {f : BodD} (h : Holds w A (bodS.cs [f])) : ∃ b o, A = some ⟨b, o, none⟩ ∧ w.cell? ⟨b, o, none⟩ = some (.int .i64 f.cel) ∧ w.cell? ⟨b, o + 1, none⟩ = some (.int .i64 f.dst) ∧ w.cell? ⟨b, o + 2, none⟩ = some (.bool f.srv) ∧ w.cell? ⟨b, o + 3, none⟩ = some (.bool f.flt) := by
  obtain ⟨b, o, hA, _, ha⟩ := StK.holds_at h (i := 0) (by simp)
  have k := bod_cells ha
  simp only [Nat.zero_mul, Nat.add_zero, List.getElem_cons_zero] at k
  exact ⟨b, o, hA, k⟩
theorem holds_one {w : World} {b : Nat} {f : BodD} (h : BodAt w b f) : bodS.Own w b (.slice (some ⟨b, 0, none⟩) 1 1) [f] := by
  refine ⟨by simp [StK.cs_length], .inr ⟨b, 1, BC f, rfl, Nat.le_refl _, h, Nat.le_refl 1, by unfold maxLen; omega, rfl, rfl⟩⟩
end Go.Proofs.Ytjbhmeeebacnpaa
namespace Go.Proofs.Ytjbhmeeebacnpaa
open Go Go.RowKit Fl

/-- A part of a row. -/
theorem Holds.part {w : World} {b o : Nat} {xs : List Value} (h : Holds w (some ⟨b, o, none⟩) xs) (i n : Nat) (hn : i + n ≤ xs.length) : Holds w (some ⟨b, o + i, none⟩) ((xs.drop i).take n) := by
  rcases h with h | ⟨b', o', hA, hb, hc⟩
  · left; subst h; simp
  · injection hA with hA
    injection hA with e1 e2
    subst e1 e2
    right
    refine ⟨b, o + i, rfl, hb, fun j hj => ?_⟩
    rw [List.length_take, List.length_drop] at hj
    rw [Nat.add_assoc, hc (i + j) (by omega), List.getElem_take, List.getElem_drop]
theorem openS_part {s : List Bool} {x : SpurD} {b n : Nat} (hb : x.base = (b : Int)) (hn : x.slots = (n : Int)) (h : b + n ≤ s.length) : ((List.range x.slots.toNat).any (fun j => atB s (x.base.toNat + j))) = decide (true ∈ (s.drop b).take n) := by
  rw [hb, hn, Int.toNat_natCast, Int.toNat_natCast, Bool.eq_iff_iff, List.any_eq_true, decide_eq_true_iff]
  constructor
  · rintro ⟨j, hj, h1⟩
    have hj' := List.mem_range.1 hj
    rw [atB_get (by omega)] at h1
    refine List.mem_iff_getElem.2 ⟨j, by rw [List.length_take, List.length_drop]; omega, ?_⟩
    rw [List.getElem_take, List.getElem_drop]
    exact h1
  · intro h1
    obtain ⟨j, hj, e⟩ := List.mem_iff_getElem.1 h1
    rw [List.length_take, List.length_drop] at hj
    rw [List.getElem_take, List.getElem_drop] at e
    exact ⟨j, List.mem_range.2 (by omega), by rw [atB_get (by omega)]; exact e⟩
end Go.Proofs.Ytjbhmeeebacnpaa
namespace Go.Proofs.Ytjbhmeeebacnpaa
open Go Go.RowKit Fl

theorem flag (P : Prop) : ∃ z : Bool, z = true ↔ P := by
  by_cases h : P
  · exact ⟨true, ⟨fun _ => h, fun _ => rfl⟩⟩
  · exact ⟨false, ⟨fun h' => absurd h' Bool.false_ne_true, fun h' => absurd h' h⟩⟩
theorem betw_z (n lo hi : Int) (z : Bool) (w : World) (hz : z = true ↔ lo ≤ n ∧ n ≤ hi) : Calls Try.prog 84 #[.int .i64 n, .int .i64 lo, .int .i64 hi] w fun e w' => e = .returned (.bool z) ∧ w = w' := by
  rcases z with _ | _
  · exact between_f n lo hi w (fun h => Bool.false_ne_true (hz.2 h))
  · exact between_t n lo hi w (hz.1 rfl).1 (hz.1 rfl).2
set_option maxHeartbeats 2000000 in
theorem devConfigX_c (q a d p : Int) (w : World) :
    Calls Try.prog 79 #[.agg #[Iv q, Iv a, Iv d, Iv p]] w (Exact (ConfOk q a d p) w) := by
  obtain ⟨z1, hz1⟩ := flag (1 ≤ q ∧ q ≤ 8)
  obtain ⟨z2, hz2⟩ := flag (0 ≤ a ∧ a ≤ 4)
  obtain ⟨z3, hz3⟩ := flag (0 ≤ d ∧ d ≤ 3)
  obtain ⟨z4, hz4⟩ := flag (1 ≤ p ∧ p ≤ 16)
  have C1 := Lib.hid (fun W => betw_z q 1 8 z1 W hz1)
  have C2 := Lib.hid (fun W => betw_z a 0 4 z2 W hz2)
  have C3 := Lib.hid (fun W => betw_z d 0 3 z3 W hz3)
  have C4 := Lib.hid (fun W => betw_z p 1 16 z4 W hz4)
  have HZ1 := Lib.hid hz1
  have HZ2 := Lib.hid hz2
  have HZ3 := Lib.hid hz3
  have HZ4 := Lib.hid hz4
  have hB0 := Lib.hid ((Below.refl w.heap.size w).alloc (Nat.le_refl _) (.cells #[Iv q, Iv a, Iv d, Iv p] 27))
  clear hz1 hz2 hz3 hz4
  go_enter Try.func79, Try.ntmps79
  go_wp2_with fail
  refine (C1.out _).mono ?_
  rintro e w1 ⟨rfl, rfl⟩
  rcases z1 with _ | _
  · have HB : Hid (¬ ConfOk q a d p) := Lib.hid (fun h => Bool.false_ne_true (HZ1.out.2 h.queue))
    go_wp2
    go_ret
    exact .no HB.out hB0.out
  go_wp2_with fail
  refine (C2.out _).mono ?_
  rintro e w1 ⟨rfl, rfl⟩
  rcases z2 with _ | _
  · have HB : Hid (¬ ConfOk q a d p) := Lib.hid (fun h => Bool.false_ne_true (HZ2.out.2 h.aging))
    go_wp2
    go_ret
    exact .no HB.out hB0.out
  go_wp2_with fail
  refine (C3.out _).mono ?_
  rintro e w1 ⟨rfl, rfl⟩
  rcases z3 with _ | _
  · have HB : Hid (¬ ConfOk q a d p) := Lib.hid (fun h => Bool.false_ne_true (HZ3.out.2 h.detours))
    go_wp2
    go_ret
    exact .no HB.out hB0.out
  go_wp2_with fail
  refine (C4.out _).mono ?_
  rintro e w1 ⟨rfl, rfl⟩
  rcases z4 with _ | _
  · have HB : Hid (¬ ConfOk q a d p) := Lib.hid (fun h => Bool.false_ne_true (HZ4.out.2 h.patience))
    go_wp2
    go_ret
    exact .no HB.out hB0.out
  have HG : Hid (ConfOk q a d p) := Lib.hid ⟨HZ1.out.1 (by first | rfl | trivial), HZ2.out.1 (by first | rfl | trivial), HZ3.out.1 (by first | rfl | trivial), HZ4.out.1 (by first | rfl | trivial)⟩
  go_wp2
  go_ret
  exact .yes HG.out hB0.out
set_option maxRecDepth 100000 in
set_option maxHeartbeats 4000000 in
theorem nextX_c (A : Option Addr) (c k n : Nat) (r : List Int) (z : Bool) (w : World) (hh : Holds w A (r.map Iv)) (hl : r.length ≤ 1000000000000000000) (hz : z = true ↔ RowFit n k r) :
    Calls Try.prog 86 #[.slice A r.length c, .int .i64 k, .int .i64 n] w fun e w' => e = .returned (.bool z) ∧ w = w' := by
  have HH := Lib.hid hh
  have HZ := Lib.hid hz
  clear hh hz
  by_cases h4 : r.length ≤ 4
  rotate_left
  · have HB : Hid (z = false) := Lib.hid (by
      rcases z with _ | _
      · rfl
      · exact absurd (HZ.out.1 rfl).few h4)
    have h4i : (4 : Int) < (r.length : Int) := by omega
    go_enter Try.func86, Try.ntmps86
    go_wp2
    go_ret
    exact ⟨gr_bool HB.out.symm, rfl⟩
  have HBad : Hid (∀ (j : Nat) (h : j < r.length), ¬ ((0 ≤ r[j] ∧ r[j] < (n : Int) ∧ r[j] ≠ (k : Int)) ∧ ∀ (h0 : 0 < j), r[j - 1]'(by omega) < r[j]) → z = false) := Lib.hid (fun j h hno => by
    rcases z with _ | _
    · rfl
    · exact absurd ((HZ.out.1 rfl).step h) hno)
  go_enter Try.func86, Try.ntmps86
  go_wp2
  go_loop [7, 15] (fun l i => ∃ (j : Nat) (y : Int), i = .int .i64 j ∧ l = .int .i64 y ∧ j ≤ r.length ∧ Hid (PreRow n k r j) ∧ Hid ((j = 0 ∧ y = -1) ∨ 0 < j ∧ r[j - 1]? = some y)) (fun _ i => r.length - (intOf i).toNat)
  case atStart => exact ⟨0, -1, rfl, rfl, Nat.zero_le _, Lib.hid (PreRow.zero _ _ _), Lib.hid (.inl ⟨rfl, rfl⟩)⟩
  case round =>
    obtain ⟨j, y, rfl, rfl, hj, HP, HY⟩ := hrel
    by_cases hlt : j < r.length
    · obtain ⟨b, o, rfl, e1⟩ := HH.out.iv hlt
      have hst : (y < r[j] ∧ r[j] < (n : Int) ∧ r[j] ≠ (k : Int)) ↔ ((0 ≤ r[j] ∧ r[j] < (n : Int) ∧ r[j] ≠ (k : Int)) ∧ ∀ (h0 : 0 < j), r[j - 1]'(by omega) < r[j]) := by
        rcases HY.out with ⟨rfl, rfl⟩ | ⟨h0, he⟩
        · exact ⟨fun ⟨a, b, c⟩ => ⟨⟨by omega, b, c⟩, fun h0 => absurd h0 (by omega)⟩, fun ⟨⟨a, b, c⟩, _⟩ => ⟨by omega, b, c⟩⟩
        · obtain ⟨h, rfl⟩ := List.getElem?_eq_some_iff.1 he
          have h1 := (HP.out.1 (j - 1) h (by omega)).1
          exact ⟨fun ⟨a, b, c⟩ => ⟨⟨by omega, b, c⟩, fun _ => a⟩, fun ⟨⟨a, b, c⟩, d⟩ => ⟨d h0, b, c⟩⟩
      by_cases hok : y < r[j] ∧ r[j] < (n : Int) ∧ r[j] ≠ (k : Int)
      · have HP2 := Lib.hid (HP.out.step hlt (hst.1 hok).1 (hst.1 hok).2)
        have HY2 : Hid (∀ x, x = r[j] → (j + 1 = 0 ∧ x = -1) ∨ 0 < j + 1 ∧ r[j + 1 - 1]? = some x) := Lib.hid (fun x hx => .inr ⟨by omega, by simp [hx, hlt]⟩)
        obtain ⟨p1, p2, p3⟩ := hok
        clear HY HP hst
        generalize r[j] = x at *
        have q1 : ¬ x ≤ y := by omega
        have q2 : ¬ (n : Int) ≤ x := by omega
        have q3 : (x == (k : Int)) = false := by simpa using p3
        clear p3
        go_wp2
        go_round
        case rel => exact ⟨j + 1, x, by go_num, rfl, by omega, HP2, Lib.hid (HY2.out _ rfl)⟩
        case measure => simp [intOf]; omega
      · have HB := Lib.hid (HBad.out j hlt (fun h => hok (hst.2 h)))
        have hcs : r[j] ≤ y ∨ (¬ r[j] ≤ y ∧ (n : Int) ≤ r[j]) ∨ (¬ r[j] ≤ y ∧ ¬ (n : Int) ≤ r[j] ∧ (r[j] == (k : Int)) = true) := by
          rw [beq_iff_eq]
          omega
        clear HY HP hst hok HBad HZ
        generalize r[j] = x at *
        rcases hcs with q | ⟨q1, q⟩ | ⟨q1, q2, q⟩
        all_goals
          go_wp2
          go_ret
          exact ⟨gr_bool HB.out.symm, rfl⟩
    · obtain rfl : j = r.length := by omega
      have HG := Lib.hid (HZ.out.2 (HP.out.all h4))
      go_wp2
      go_ret
      exact ⟨gr_bool HG.out.symm, rfl⟩
theorem depotTestX_c (s : SpurD) (w : World) : Calls Try.prog 94 #[.agg #[Sv s.name, Bo s.depot, Iv s.inn, Iv s.out, Iv s.slots, Iv s.base]] w fun e w' => e = .returned (.bool s.depot) ∧ Below w.heap.size w w' := by
  obtain ⟨nm, dp, si, so, sw, sb⟩ := s
  simp only
  have hB0 := Lib.hid ((Below.refl w.heap.size w).alloc (Nat.le_refl _) (.cells #[Sv nm, Bo dp, Iv si, Iv so, Iv sw, Iv sb] 61))
  go_enter Try.func94, Try.ntmps94
  go_wp2
  go_ret
  exact ⟨rfl, hB0.out⟩
set_option maxRecDepth 100000 in
set_option maxHeartbeats 4000000 in
theorem idxSpurX_c (A : Option Addr) (c : Nat) (l : List SpurD) (w : World) (hl : Holds w A (spurCells l)) (h6 : l.length ≤ 1000) :
    Calls Try.prog 95 #[.slice A l.length c, .func (.func 94) #[] #[]] w fun e w' => (∃ k : Int, e = .returned (.int .i64 k) ∧ (0 ≤ k ↔ ∃ s ∈ l, s.depot = true)) ∧ Below w.heap.size w w' := by
  have HL := Lib.hid hl
  have HC := Lib.hid (fun s W => depotTestX_c s W)
  clear hl
  go_enter Try.func95, Try.ntmps95
  go_wp2
  go_loopw [8] (fun iv wr => ∃ (i : Nat), iv = .int .i64 i ∧ i ≤ l.length ∧ Hid (∀ j (h : j < l.length), j < i → l[j].depot = false) ∧ Hid (Below w.heap.size w wr)) (fun iv _ => l.length - (intOf iv).toNat)
  case atStart => exact ⟨0, rfl, Nat.zero_le _, Lib.hid (fun j _ h => by omega), Lib.hid (Below.refl _ _)⟩
  case round =>
    obtain ⟨i, rfl, hij, HP, HB⟩ := hrel
    by_cases hir : i < l.length
    · obtain ⟨b, o, rfl, hbl, hs⟩ := HL.out.spur hir
      obtain ⟨c0, c1, c2, c3, c4, c5⟩ := hs.keep hbl HB.out
      have CN := Lib.hid (HC.out l[i] wr)
      have HP2 : Hid (l[i].depot = false → ∀ j (h : j < l.length), j < i + 1 → l[j].depot = false) := Lib.hid (fun h j hj h2 => by
        rcases Nat.lt_succ_iff_lt_or_eq.1 h2 with h3 | rfl
        · exact HP.out j hj h3
        · exact h)
      have HEx : Hid (l[i].depot = true → ∃ s ∈ l, s.depot = true) := Lib.hid (fun h => ⟨_, List.getElem_mem hir, h⟩)
      have HBz : Hid (∀ W, Below wr.heap.size wr W → Below w.heap.size w W) := Lib.hid (fun W hW => HB.out.trans (hW.mono HB.out.size))
      clear hs HP HB
      generalize l[i] = s at *
      obtain ⟨nm, dp, si, so, sw, sb⟩ := s
      simp only at c0 c1 c2 c3 c4 c5 CN HP2 HEx
      rcases dp with _ | _
      · go_wp2_with (go_at_call 94; refine CN.out.mono ?_; rintro e w2 ⟨rfl, hb2⟩)
        have HB2 := Lib.hid (HBz.out _ hb2)
        go_roundw
        case rel => exact ⟨i + 1, by go_num, by omega, Lib.hid (HP2.out (by first | rfl | trivial)), HB2⟩
        case measure => simp [intOf]; omega
      · go_wp2_with (go_at_call 94; refine CN.out.mono ?_; rintro e w2 ⟨rfl, hb2⟩)
        have HB2 := Lib.hid (HBz.out _ hb2)
        go_ret
        exact ⟨⟨_, rfl, fun _ => HEx.out (by first | rfl | trivial), fun _ => by omega⟩, HB2.out⟩
    · have HNo : Hid (¬ ∃ s ∈ l, s.depot = true) := Lib.hid (fun ⟨s, hs, hd⟩ => by
        obtain ⟨j, hj, rfl⟩ := List.mem_iff_getElem.1 hs
        rw [HP.out j hj (by omega)] at hd
        cases hd)
      go_wp2
      go_ret
      exact ⟨⟨_, rfl, fun h => by omega, fun h => absurd h HNo.out⟩, HB.out⟩
set_option maxHeartbeats 2000000 in
theorem hasDepotX_c (A : Option Addr) (c : Nat) (l : List SpurD) (w : World) (hl : Holds w A (spurCells l)) (h6 : l.length ≤ 1000) :
    Calls Try.prog 87 #[.slice A l.length c] w (Exact (∃ s ∈ l, s.depot = true) w) := by
  have CI := Lib.hid (idxSpurX_c A c l w hl h6)
  have CC : Hid (Calls Try.prog 93 #[.slice A l.length c, .func (.func 94) #[] #[]] w (Exact (∃ s ∈ l, s.depot = true) w)) := Lib.hid (by
    go_enter Try.func93, Try.ntmps93
    go_wp2_with fail
    refine CI.out.mono ?_
    rintro e w1 ⟨⟨k, rfl, hk⟩, hb1⟩
    have HB := Lib.hid hb1
    have HK := Lib.hid hk
    clear hb1 hk
    go_wp2
    go_ret
    exact .is (b := decide (0 ≤ k)) (by rw [decide_eq_true_iff]; exact HK.out) HB.out)
  clear hl CI
  go_enter Try.func87, Try.ntmps87
  go_wp2_with fail
  refine CC.out.mono ?_
  intro e w1 hE
  obtain ⟨⟨hy, rfl⟩ | ⟨hy, rfl⟩, hb1⟩ := hE.use
  · have HB := Lib.hid hb1
    have HY := Lib.hid hy
    clear hb1 hy
    go_wp2
    go_ret
    exact .yes HY.out HB.out
  · have HB := Lib.hid hb1
    have HY := Lib.hid hy
    clear hb1 hy
    go_wp2
    go_ret
    exact .no HY.out HB.out
end Go.Proofs.Ytjbhmeeebacnpaa

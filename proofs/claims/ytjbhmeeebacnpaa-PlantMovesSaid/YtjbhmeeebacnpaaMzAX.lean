/- Joined texts. -/
import Derived.Test.YtjbhmeeebacnpaaMzAJ
import Derived.Test.YtjbhmeeebacnpaaMzAV
import Derived.Test.YtjbhmeeebacnpaaMzAW
import Derived.Test.YtjbhmeeebacnpaaMzAG
import Derived.Test.YtjbhmeeebacnpaaMzAS
import Derived.BigQuiet
import Derived.Deep.RegionHeld3
import Derived.Deep.DeepCutAuto
namespace Go.Proofs.Ytjbhmeeebacnpaa
open Go Go.RowKit Fl

theorem Try.infoBoolS : (Try.prog.info? 4).map (fun i => (i.zero, i.size, i.bytes)) = some (some (.bool false), 1, 1) := by kernel_rfl
theorem own_but {w w' : World} {base q n : Nat} {e : TypeId} {v : Value} {xs : List Value} (h : w.ownsRow base e 1 v n xs) (hw : w.grownBy w' (some q)) (hq : q < base) : w'.ownsRow base e 1 v n xs := by
  obtain ⟨h1, hr⟩ := h
  refine ⟨h1, ?_⟩
  rcases hr with hr | ⟨b, cap, cur, hv, hgb, hh, hrest⟩
  · exact .inl hr
  · exact .inr ⟨b, cap, cur, hv, hgb, (hw.block b (block_lt hh) (fun e => by injection e with e; omega)).trans hh, hrest⟩
/-- What Shut returns. -/
def ShutPost (w : World) (B gt T n : Nat) (e : Ending) (w' : World) : Prop := ∃ (v : Value) (s : List Bool), e = .returned v ∧ s.length = n ∧ w'.ownsRow w.heap.size 4 1 v n (s.map Bo) ∧ TapeOk w' B gt (T + 1000) ∧ Still gt w.heap.size w w'
set_option maxRecDepth 100000 in
set_option maxHeartbeats 1000000 in
theorem sameIntsE_c (A1 A2 : Option Addr) (c1 c2 : Nat) (xs : List Int) (w : World) (h1 : Holds w A1 (xs.map Iv)) (h2 : Holds w A2 (xs.map Iv)) (hl : xs.length ≤ 1000000000000000000) :
    Calls Try.prog 18 #[.slice A1 xs.length c1, .slice A2 xs.length c2] w fun e w' => e = .returned (.bool true) ∧ ∃ n, w' = w.drewN n := by
  have H1 := Lib.hid h1
  have H2 := Lib.hid h2
  have hne : ((xs.length : Int) != (xs.length : Int)) = false := by simp
  clear h1 h2
  go_enter Try.func18, Try.ntmps18
  go_wp2
  go_loopw [5] (fun i wr => ∃ k n : Nat, i = .int .i64 k ∧ k ≤ xs.length ∧ wr = w.drewN n) (fun i _ => xs.length - (intOf i).toNat)
  case atStart => exact ⟨0, 0, rfl, Nat.zero_le _, rfl⟩
  case round =>
    obtain ⟨k, n, rfl, hk, rfl⟩ := hrel
    by_cases hlt : k < xs.length
    · obtain ⟨b1, o1, rfl, e1⟩ := H1.out.iv hlt
      obtain ⟨b2, o2, rfl, e2⟩ := H2.out.iv hlt
      have hnn : (xs[k] != xs[k]) = false := by simp
      generalize xs[k] = x at *
      clear H1 H2
      go_wp2
      go_quiet (fail)
      go_wp2
      go_roundw
      case rel => exact ⟨k + 1, _, by go_num, by omega, rfl⟩
      case measure => simp [intOf]; omega
    · clear H1 H2
      go_wp2
      go_ret
      exact ⟨rfl, n, rfl⟩
end Go.Proofs.Ytjbhmeeebacnpaa
namespace Go.Proofs.Ytjbhmeeebacnpaa
open Go Go.RowKit Fl

theorem lit_holdsB (w : World) (cs : Array Value) (e : TypeId) (l : List Value) (hl : cs.toList = l) : Holds (w.alloc (.cells cs e)) (some ⟨w.heap.size, 0, none⟩) l := by
  subst hl
  refine .inr ⟨w.heap.size, 0, rfl, by simp, fun j hj => ?_⟩
  rw [Nat.zero_add, cell_of_row _ _ _ _ _ _ (heap_alloc_new w _)]
  simp
abbrev kB : List BodD := [⟨0, 1, false, false⟩, ⟨-1, -1, false, false⟩]
abbrev kC : List BodD := [⟨0, 1, false, false⟩, ⟨1, -1, false, false⟩]
theorem k16 : doE false kB 1 0 1 = 0 ∧ doL false kB 1 0 1 = kC := by decide
theorem k16c : clashV kC = .tuple #[.int .i64 0, .int .i64 1, .bool true] := rfl
theorem k16f : fpB ⟨0, 1, false, false⟩ = [0, 1] := by decide
set_option maxRecDepth 100000 in
set_option maxHeartbeats 2000000 in
theorem known16_c (w : World) : Calls Try.prog 7 #[] w fun e w' => e = .returned (.bool true) ∧ Below w.heap.size w w' := by
  have HB0 := Lib.hid (below_newB w (.cells #[.int .i64 0, .int .i64 1, .bool false, .bool false, .int .i64 (-1), .int .i64 (-1), .bool false, .bool false] 40))
  have HH0 : Holds (w.alloc (.cells #[.int .i64 0, .int .i64 1, .bool false, .bool false, .int .i64 (-1), .int .i64 (-1), .bool false, .bool false] 40)) (some ⟨w.heap.size, 0, none⟩) (bodS.cs kB) := lit_holdsB w _ _ _ rfl
  have hC := devPut_c (some ⟨w.heap.size, 0, none⟩) 2 2 kB rfl 1 1 false _ HH0 (by decide)
  rw [k16.1, k16.2] at hC
  have HC := Lib.hid hC
  have HK : Hid (∀ A c W, Holds W A (bodS.cs kC) → Calls Try.prog 16 #[.slice A 2 c] W fun e w' => e = .returned (.tuple #[.int .i64 0, .int .i64 1, .bool true]) ∧ Below W.heap.size W w') := Lib.hid (fun A c W h => by
    have := devClash_c A c 2 kC rfl W h (by decide) (fun b hb => by
      simp only [List.mem_cons, List.not_mem_nil, or_false] at hb
      rcases hb with rfl | rfl <;> exact ⟨by decide, by decide⟩)
    rwa [k16c] at this)
  have HF := Lib.hid (fun W => devFp_c ⟨0, 1, false, false⟩ W)
  rw [k16f] at HF
  clear hC HH0
  go_enter Try.func7, Try.ntmps7
  go_wp2_with fail
  generalize w.alloc (.cells #[.int .i64 0, .int .i64 1, .bool false, .bool false, .int .i64 (-1), .int .i64 (-1), .bool false, .bool false] 40) = w1 at *
  refine HC.out.mono ?_
  rintro e w2 ⟨v, rfl, ho2, hb2⟩
  obtain ⟨A2, c2, rfl, hc2⟩ := ho2.form
  have HH2 : Hid (Holds w2 A2 (bodS.cs kC)) := Lib.hid (ownsRow_holds ho2)
  have HB2 := Lib.hid (HB0.out.trans (hb2.mono HB0.out.size))
  clear ho2 hb2 HC HB0
  go_wp2_with fail
  refine (HK.out A2 c2 w2 HH2.out).mono ?_
  rintro e w3 ⟨rfl, hb3⟩
  have HH3 := Lib.hid (HH2.out.keep hb3)
  have HB3 := Lib.hid (HB2.out.trans (hb3.mono HB2.out.size))
  obtain ⟨b, o, rfl, _, a1⟩ := StK.holds_at HH3.out (i := 0) (by decide)
  obtain ⟨x0, x1, x2, x3⟩ := bod_cells a1
  simp only [Nat.zero_mul, Nat.add_zero, List.getElem_cons_zero] at x0 x1 x2 x3
  clear hb3 HK HH2 HB2 a1
  go_wp2_with fail
  refine (HF.out w3).mono ?_
  rintro e w4 ⟨u, rfl, ho4, hb4⟩
  obtain ⟨A4, c4, rfl⟩ := own_sliceC ho4
  have HB4 := Lib.hid (HB3.out.trans (hb4.mono HB3.out.size))
  have HS : Hid (Calls Try.prog 18 #[.slice A4 2 c4, .slice (some ⟨w4.heap.size, 0, none⟩) 2 2] (w4.alloc (.cells #[.int .i64 0, .int .i64 1] 3)) fun e w' => e = .returned (.bool true) ∧ ∃ n, w' = (w4.alloc (.cells #[.int .i64 0, .int .i64 1] 3)).drewN n) := Lib.hid (sameIntsE_c A4 (some ⟨w4.heap.size, 0, none⟩) c4 2 [0, 1] _ ((ownsRow_holds ho4).keep (below_newB _ _)) (lit_holdsB _ _ _ _ rfl) (by decide))
  have HB5 := Lib.hid (HB4.out.alloc HB4.out.size (.cells #[.int .i64 0, .int .i64 1] 3))
  clear ho4 hb4 HF HB3 HB4 HH3
  go_wp2_with fail
  refine HS.out.mono ?_
  rintro e w5 ⟨rfl, n5, rfl⟩
  clear HS
  go_wp2
  go_ret
  exact ⟨by first | rfl | simp, below_drewN HB5.out _⟩
end Go.Proofs.Ytjbhmeeebacnpaa
namespace Go.Proofs.Ytjbhmeeebacnpaa
open Go Go.RowKit Fl

theorem NetOk.count {N : NetD} (h : NetOk N) : ∃ c : Nat, cellsN N = c ∧ 1 ≤ c ∧ c ≤ 48 := by
  have h1 := slotsK_bounds (l := N.spurs) (fun s hs => by have := (h.spurOk s hs).slots; omega) N.spurs.length (Nat.le_refl _)
  have h2 := h.some
  have h3 := h.few
  have h4 := h.spurs6
  refine ⟨(cellsN N).toNat, ?_, ?_, ?_⟩ <;> unfold cellsN <;> omega
theorem NextIs.ne {N : NetD} (hok : NetOk N) {c : Int} {xs : List Int} (h : NextIs N c xs) : ∀ x ∈ xs, x ≠ c := by
  rcases h with ⟨b, hb, hb', rfl, rfl⟩ | ⟨k, hk, h1, h2, rfl⟩
  · intro x hx
    rcases List.mem_append.1 hx with hx | hx
    · exact (validG_row hok.graph hb' x hx).2.2
    · unfold spurBases at hx
      obtain ⟨s, hs, rfl⟩ := List.mem_map.1 hx
      obtain ⟨k, hk, rfl⟩ := List.mem_iff_getElem.1 (List.mem_filter.1 hs).1
      have hbk := hok.bases k hk
      have h3 := (slotsK_bounds (l := N.spurs) (fun s hs => by have := (hok.spurOk s hs).slots; omega) k (by omega)).1
      omega
  · intro x hx
    rw [List.mem_singleton] at hx
    subst hx
    have hbk := hok.bases k hk
    have h3 := (slotsK_bounds (l := N.spurs) (fun s hs => by have := (hok.spurOk s hs).slots; omega) k (by omega)).1
    have h4 := (hok.spurOk _ (List.getElem_mem hk)).out
    split <;> omega
/-- What the landed cells says of a cell of a valid network. -/
theorem nextMade (Ab An As Ar : Option Addr) (cb cn cs cr : Nat) (N : NetD) (c : Int) (w : World) (hN : NetAt w Ab An As Ar N) (hok : NetOk N) (hcr : N.robots.length ≤ cr) (hc : inN N c) :
    ∃ xs : List Int, xs.length ≤ 24 ∧ (∀ x ∈ xs, inN N x ∧ x ≠ c) ∧ (∀ W, Below w.heap.size w W → Calls Try.prog 24 #[.agg #[.slice Ab N.blocks.length cb, .slice An N.next.length cn, .slice As N.spurs.length cs, .slice Ar N.robots.length cr, Iv N.queue, Iv N.aging, Iv N.detours, Iv N.patience], .int .i64 c] W (NextPost2 W xs)) ∧
      ∀ z W, Below w.heap.size w W → Calls Try.prog 26 #[.agg #[.slice Ab N.blocks.length cb, .slice An N.next.length cn, .slice As N.spurs.length cs, .slice Ar N.robots.length cr, Iv N.queue, Iv N.aging, Iv N.detours, Iv N.patience], .int .i64 c, .int .i64 z] W fun e w' => e = .returned (.bool (decide (z ∈ xs))) ∧ Below W.heap.size W w' := by
  obtain ⟨xs, hx, h24, hin⟩ := hok.nextIs hc
  have hN2 := fun W (hW : Below w.heap.size w W) => devNextIs_c Ab An As Ar cb cn cs cr N c xs W (hN.keep hW) hok hcr hx
  exact ⟨xs, h24, fun x h => ⟨hin x h, hx.ne hok x h⟩, hN2, fun z W hW => follows_c Ab An As Ar cb cn cs cr N c z xs W h24 (fun W2 hW2 => hN2 W2 (hW.trans (hW2.mono hW.size)))⟩
/-- A made network, the tape, and a list of bodies beside them. -/
structure PN (w w2 : World) (gt T X top : Nat) (N : NetD) (Ab An As Ar : Option Addr) (cb cn cs cr : Nat) (v : Value) (l : List BodD) (wr : World) : Prop where
  made : MadeN w w2 gt T X top N Ab An As Ar cb cn cs cr wr
  own : bodS.Own wr (gt + 1) v l
section
variable {w w2 wr w' : World} {gt T T' X top : Nat} {N : NetD} {Ab An As Ar : Option Addr} {cb cn cs cr : Nat} {v v' : Value} {l l' : List BodD}
theorem PN.next (h : PN w w2 gt T X top N Ab An As Ar cb cn cs cr v l wr) (ht : TapeOk w' w.heap.size gt T') (hg : wr.grownBy w' (some gt)) : PN w w2 gt T' X top N Ab An As Ar cb cn cs cr v l w' :=
  ⟨h.made.still ht (Still.of_grown hg (Nat.le_refl _)), h.own.far hg (by omega)⟩
theorem PN.keep (h : PN w w2 gt T X top N Ab An As Ar cb cn cs cr v l wr) (hb : Below wr.heap.size wr w') : PN w w2 gt T X top N Ab An As Ar cb cn cs cr v l w' :=
  ⟨h.made.keep hb, h.own.keep hb⟩
theorem PN.drew (h : PN w w2 gt T X top N Ab An As Ar cb cn cs cr v l wr) : PN w w2 gt T X top N Ab An As Ar cb cn cs cr v l wr.drew := h.keep (Below.refl _ _).drew
theorem PN.drewN {n : Nat} (h : PN w w2 gt T X top N Ab An As Ar cb cn cs cr v l wr) : PN w w2 gt T X top N Ab An As Ar cb cn cs cr v l (wr.drewN n) := h.keep (below_drewN (Below.refl _ _) n)
theorem PN.low (h : PN w w2 gt T X top N Ab An As Ar cb cn cs cr v l wr) : gt < wr.heap.size := by
  have h1 := h.made.lowG
  have h2 := block_lt h.made.box
  have h3 := h.made.lowX
  omega
/-- The list is replaced by one of a call. -/
theorem PN.put (h : PN w w2 gt T X top N Ab An As Ar cb cn cs cr v l wr) (hb : Below wr.heap.size wr w') (ho : bodS.Own w' wr.heap.size v' l') : PN w w2 gt T X top N Ab An As Ar cb cn cs cr v' l' w' :=
  ⟨h.made.keep hb, ho.base (by have := h.low; omega)⟩
theorem PN.more (h : PN w w2 gt T X top N Ab An As Ar cb cn cs cr v l wr) (hT : T ≤ T') : PN w w2 gt T' X top N Ab An As Ar cb cn cs cr v l wr :=
  ⟨h.made.still (h.made.nm.tape.more hT) (Still.refl _ _ _), h.own⟩
theorem PN.holds {A : Option Addr} {c : Nat} (h : PN w w2 gt T X top N Ab An As Ar cb cn cs cr (.slice A l.length c) l wr) : Holds wr A (bodS.cs l) := ownsRow_holds h.own
theorem PN.box (h : PN w w2 gt T X top N Ab An As Ar cb cn cs cr v l wr) : wr.cell? ⟨X, 0, none⟩ = some (.slice Ab N.blocks.length cb) ∧ wr.cell? ⟨X, 1, none⟩ = some (.slice An N.next.length cn) ∧ wr.cell? ⟨X, 2, none⟩ = some (.slice As N.spurs.length cs) ∧ wr.cell? ⟨X, 3, none⟩ = some (.slice Ar N.robots.length cr) ∧ wr.cell? ⟨X, 4, none⟩ = some (Iv N.queue) ∧ wr.cell? ⟨X, 5, none⟩ = some (Iv N.aging) ∧ wr.cell? ⟨X, 6, none⟩ = some (Iv N.detours) ∧ wr.cell? ⟨X, 7, none⟩ = some (Iv N.patience) := by
  have k := boxAt_of h.made.box
  exact ⟨k.c0, k.c1, k.c2, k.c3, k.c4, k.c5, k.c6, k.c7⟩
theorem PN.body {b : Nat} {q : BodD} (_h : PN w w2 gt T X top N Ab An As Ar cb cn cs cr v l wr) (hb : BodAt wr b q) (hg : wr.grownBy w' (some gt)) (hne : b ≠ gt) : BodAt w' b q := hb.grown hg (fun e => by injection e with e; exact hne e.symm)
end
/-- What one body of a list holds. -/
theorem one_cells {w : World} {A : Option Addr} {f : BodD} (h : Holds w A (bodS.cs [f])) : ∃ b o, A = some ⟨b, o, none⟩ ∧ w.cell? ⟨b, o, none⟩ = some (.int .i64 f.cel) ∧ w.cell? ⟨b, o + 1, none⟩ = some (.int .i64 f.dst) ∧ w.cell? ⟨b, o + 2, none⟩ = some (.bool f.srv) ∧ w.cell? ⟨b, o + 3, none⟩ = some (.bool f.flt) := by
  obtain ⟨b, o, hA, _, ha⟩ := StK.holds_at h (i := 0) (by simp)
  have k := bod_cells ha
  simp only [Nat.zero_mul, Nat.add_zero, List.getElem_cons_zero] at k
  exact ⟨b, o, hA, k⟩
theorem holds_one {w : World} {b : Nat} {f : BodD} (h : BodAt w b f) : bodS.Own w b (.slice (some ⟨b, 0, none⟩) 1 1) [f] := by
  refine ⟨by simp [StK.cs_length], .inr ⟨b, 1, BC f, rfl, Nat.le_refl _, h, Nat.le_refl 1, by unfold maxLen; omega, rfl, rfl⟩⟩
end Go.Proofs.Ytjbhmeeebacnpaa
namespace Go.Proofs.Ytjbhmeeebacnpaa
open Go Go.RowKit Fl

theorem doE_fault {fol : Bool} {f : BodD} (h : f.cel ≠ -1) : doE fol [f] 0 5 0 = 0 ∧ doL fol [f] 0 5 0 = [⟨f.cel, f.dst, f.srv, true⟩] := by
  have h1 := do_ch fol [f] 0 5 0 (by decide)
  have hf : floorB f = true := by unfold floorB; simpa using h
  have h2 : okB fol (bodAt [f] 0) 5 = true := hf
  rw [h1.1, h1.2, h2]
  exact ⟨rfl, rfl⟩
/-- A faulted body on the floor: only a fault is possible, and it changes nothing. -/
theorem doE_faulted {fol : Bool} {f : BodD} (h : f.cel ≠ -1) (hf : f.flt = true) (a c : Int) (ha : 0 ≤ a ∧ a < 6) (hc : 0 ≤ c ∧ c < 48) : (a = 5 ∧ doE fol [f] 0 a (aC a c) = 0 ∧ doL fol [f] 0 a (aC a c) = [f]) ∨ (a ≠ 5 ∧ doE fol [f] 0 a (aC a c) = 24) := by
  obtain ⟨cel, dst, srv, flt⟩ := f
  dsimp only at h hf
  subst hf
  have hfl : floorB ⟨cel, dst, srv, true⟩ = true := by unfold floorB; simpa using h
  have hr : restB ⟨cel, dst, srv, true⟩ = false := by unfold restB; simp
  have hac : 0 ≤ aC a c ∧ aC a c < 48 := by unfold aC; split <;> omega
  have h1 := do_ch fol [⟨cel, dst, srv, true⟩] 0 a (aC a c) hac
  by_cases h5 : a = 5
  · subst h5
    have := doE_fault (fol := fol) (f := ⟨cel, dst, srv, true⟩) h
    exact .inl ⟨rfl, this⟩
  · refine .inr ⟨h5, ?_⟩
    have h2 : okB fol ⟨cel, dst, srv, true⟩ a = false := by
      have h6 : a = 0 ∨ a = 1 ∨ a = 2 ∨ a = 3 ∨ a = 4 := by omega
      unfold okB
      rw [hr, hfl]
      rcases h6 with rfl | rfl | rfl | rfl | rfl <;> simp
    rw [h1.1]
    show chE _ 0 (okB fol ⟨cel, dst, srv, true⟩ a) = 24
    rw [h2]
    rfl
theorem doE_lift {fol : Bool} {f : BodD} (h : f.cel ≠ -1) (hf : f.flt = true) : doE fol [f] 0 6 0 = 0 ∧ doL fol [f] 0 6 0 = [offB] := by
  have h1 := do_ch fol [f] 0 6 0 (by decide)
  have hfl : floorB f = true := by unfold floorB; simpa using h
  have h2 : okB fol (bodAt [f] 0) 6 = true := by
    show (floorB f && (restB f || f.flt)) = true
    rw [hfl, hf]
    simp
  rw [h1.1, h1.2, h2]
  exact ⟨rfl, rfl⟩
theorem MadeN.mono {w w2 wr : World} {gt T T' X top : Nat} {N : NetD} {Ab An As Ar : Option Addr} {cb cn cs cr : Nat} (h : MadeN w w2 gt T X top N Ab An As Ar cb cn cs cr wr) (hT : T ≤ T') : MadeN w w2 gt T' X top N Ab An As Ar cb cn cs cr wr :=
  h.still (h.nm.tape.more hT) (Still.refl _ _ _)
set_option maxRecDepth 100000 in
set_option maxHeartbeats 8000000 in
theorem plantFaulted_c (C : Option Addr) (k : Nat) (zs : List Int) (w : World) (hz : IntsAt w w.heap.size C zs) (hzl : zs.length ≤ maxLen) :
    Calls Try.prog 5 #[.slice C zs.length k] w fun e w' => e = .returned (.bool true) ∧ Below w.heap.size w w' := by
  have CK := Lib.hid (known16_c w)
  have HZ := Lib.hid hz
  have HL := Lib.hid hzl
  clear hz hzl
  go_enter Try.func5, Try.ntmps5
  go_wp2_with fail
  refine CK.out.mono ?_
  rintro e w1 ⟨rfl, hb1⟩
  have HT2 := Lib.hid (tape_new (c := k) HZ.out (Nat.le_refl _) hb1 HL.out)
  have HB2 : Hid (Below w.heap.size w (w1.alloc (.cells #[.slice C zs.length k, .int .i64 0] 35))) := Lib.hid (hb1.alloc hb1.size _)
  have HgB : Hid (w.heap.size ≤ w1.heap.size) := Lib.hid hb1.size
  have HS2 : Hid (w1.heap.size < (w1.alloc (.cells #[.slice C zs.length k, .int .i64 0] 35)).heap.size) := Lib.hid (by simp)
  clear hb1 CK HZ HL
  go_wp2_with fail
  refine (loose_c w.heap.size w1.heap.size 0 6 _ HT2.out (by omega) ⟨by omega, by omega⟩ HS2.out HgB.out).mono ?_
  rintro e w3 ⟨N, Ab, An, As, Ar, cb, cn, cs, cr, top, rfl, hN, hM⟩
  have HN := Lib.hid hN
  have H4 := Lib.hid (MadeN.begin hM ⟨HgB.out, HS2.out⟩ HB2.out)
  generalize w1.alloc (.cells #[.slice C zs.length k, .int .i64 0] 35) = w2 at *
  generalize hg0 : w1.heap.size = g0 at *
  clear hN hM HT2 HB2 HgB HS2 hg0
  go_upto_region 5 with fail
  generalize w3.alloc (.cells (netCells Ab An As Ar cb cn cs cr N) 29) = w4 at *
  generalize w3.heap.size = X at *
  have HOk := Lib.hid HN.out.ok
  have HCr := Lib.hid H4.out.nm.capR
  obtain ⟨c, hc, hc1, hc48⟩ := HOk.out.count
  have HCl := Lib.hid (cells_c Ab An As Ar cb cn cs cr N w4 H4.out.nm.at_ HOk.out.few')
  rw [hc] at HCl
  have HP4 : Hid (PN w w2 g0 300 X top N Ab An As Ar cb cn cs cr (.slice none 0 0) [] w4) := Lib.hid ⟨H4.out.mono (by omega), StK.Own.nil _ _ _⟩
  have hIn : Hid (∀ z : Nat, z < c → inN N z) := Lib.hid (fun z hz => ⟨by omega, by rw [hc]; omega⟩)
  obtain ⟨x0, x1, x2, x3, x4, x5, x6, x7⟩ := HP4.out.box
  have HCt := Lib.hid hc
  clear HN H4 hc
  go_wp2_with fail
  refine HCl.out.mono ?_
  rintro e w5 ⟨rfl, hb5⟩
  have HP5 := Lib.hid (HP4.out.keep hb5)
  clear hb5 HCl HP4 x0 x1 x2 x3 x4 x5 x6 x7
  go_wp2_with fail
  refine (body_c w.heap.size g0 300 c w5 HP5.out.made.nm.tape (by omega) HP5.out.low hc1 (by omega)).mono ?_
  rintro e w6 ⟨q, rfl, ⟨m1, m2, m3, m4⟩, ht6, hg6⟩
  have HP6 := Lib.hid (HP5.out.next ht6 hg6)
  have hsz6 := HP6.out.low
  have HBo := Lib.hid (fun (q : BodD) => BodAt.new w6 q)
  have HPo := Lib.hid (fun (q : BodD) => HP6.out.keep (below_newB w6 (.cells (BC q) 40)))
  clear ht6 hg6 HP5 HP6
  obtain ⟨cel, dst, srv, flt⟩ := q
  dsimp only at m1 m2 m3 m4
  go_upto_if 32 with fail
  go_cut [6] from 33 to 35 (fun p wx => ∃ (f : BodD) (Y : Nat), p = .slice (some ⟨Y, 0, none⟩) 1 1 ∧ 0 ≤ f.cel ∧ f.cel < c ∧ Hid (PN w w2 g0 305 X top N Ab An As Ar cb cn cs cr p [f] wx))
  case first =>
    by_cases hn : cel < 0
    · have HP7 : Hid (PN w w2 g0 305 X top N Ab An As Ar cb cn cs cr (.slice (some ⟨w6.heap.size, 0, none⟩) 1 1) [⟨0, dst, srv, flt⟩] (w6.alloc (.cells #[.int .i64 0, .int .i64 dst, .bool srv, .bool flt] 40))) := Lib.hid ⟨(HPo.out ⟨0, dst, srv, flt⟩).made, (holds_one (HBo.out ⟨0, dst, srv, flt⟩)).base hsz6⟩
      clear HPo HBo
      go_wp2_with fail
      go_meet
      case rel => exact ⟨⟨0, dst, srv, flt⟩, _, rfl, by simp, by simp only; omega, HP7⟩
    · have HP7 : Hid (PN w w2 g0 305 X top N Ab An As Ar cb cn cs cr (.slice (some ⟨w6.heap.size, 0, none⟩) 1 1) [⟨cel, dst, srv, flt⟩] (w6.alloc (.cells #[.int .i64 cel, .int .i64 dst, .bool srv, .bool flt] 40))) := Lib.hid ⟨(HPo.out ⟨cel, dst, srv, flt⟩).made, (holds_one (HBo.out ⟨cel, dst, srv, flt⟩)).base hsz6⟩
      clear HPo HBo
      go_wp2_with fail
      go_meet
      case rel => exact ⟨⟨cel, dst, srv, flt⟩, _, rfl, by simp only; omega, by simp only; omega, HP7⟩
  case rest =>
    clear HPo HBo hsz6 m1 m2 m3 m4
    obtain ⟨f0, Y, rfl, hf0, hfl, HPc⟩ := hcut
    obtain ⟨fc, fd, fs, f3⟩ := f0
    dsimp only at hf0 hfl
    have HFc : Hid (inN N fc) := Lib.hid ⟨hf0, by rw [HCt.out]; exact hfl⟩
    have hfc : fc ≠ -1 := by omega
    have hD := devFault_c (some ⟨Y, 0, none⟩) 1 1 [⟨fc, fd, fs, f3⟩] rfl 0 false wc HPc.out.holds (by decide)
    rw [(doE_fault hfc).1, (doE_fault hfc).2] at hD
    have HD := Lib.hid hD
    clear hD
    have HLf : Hid (∀ fol : Bool, doE fol [(⟨fc, fd, fs, true⟩ : BodD)] 0 6 0 = 0 ∧ doL fol [(⟨fc, fd, fs, true⟩ : BodD)] 0 6 0 = [offB]) := Lib.hid (fun fol => doE_lift hfc rfl)
    have HAf : Hid (∀ (fol : Bool) (a c : Int), 0 ≤ a ∧ a < 6 → 0 ≤ c ∧ c < 48 → (a = 5 ∧ doE fol [(⟨fc, fd, fs, true⟩ : BodD)] 0 a (aC a c) = 0 ∧ doL fol [(⟨fc, fd, fs, true⟩ : BodD)] 0 a (aC a c) = [⟨fc, fd, fs, true⟩]) ∨ (a ≠ 5 ∧ doE fol [(⟨fc, fd, fs, true⟩ : BodD)] 0 a (aC a c) = 24)) := Lib.hid (fun fol a c ha hc => doE_faulted hfc rfl a c ha hc)
    go_wp2_with fail
    refine HD.out.mono ?_
    rintro e w8 ⟨v8, rfl, ho8, hb8⟩
    have HP8 := Lib.hid (HPc.out.put hb8 ho8)
    obtain ⟨A8, c8, rfl, _⟩ := ho8.form
    clear ho8 hb8 HPc HD
    obtain ⟨b8, o8, rfl, z0, z1, z2, z3⟩ := one_cells HP8.out.holds
    dsimp only at z0 z1 z2 z3
    have HP9 := Lib.hid (HP8.out.keep (below_newB w8 (.cells (BC ⟨fc, fd, fs, true⟩) 40)))
    have HZ9 := Lib.hid (BodAt.new w8 ⟨fc, fd, fs, true⟩)
    have hgz := HP8.out.low
    clear HP8
    go_wp2_with fail
    generalize w8.alloc (.cells #[.int .i64 fc, .int .i64 fd, .bool fs, .bool true] 40) = w9 at *
    generalize w8.heap.size = Z at *
    go_loopw [6, 9] (fun p kv wr => ∃ (k d : Nat) (A : Option Addr), p = .slice A 1 d ∧ kv = .int .i64 k ∧ k ≤ 8 ∧ Hid (PN w w2 g0 (305 + 2 * k) X top N Ab An As Ar cb cn cs cr p [⟨fc, fd, fs, true⟩] wr) ∧ Hid (BodAt wr Z ⟨fc, fd, fs, true⟩)) (fun _ kv _ => 8 - (intOf kv).toNat)
    case atStart => exact ⟨0, _, _, rfl, rfl, by omega, HP9, HZ9⟩
    case round =>
      clear HP9 HZ9 z0 z1 z2 z3
      obtain ⟨k, d, A, rfl, rfl, hk, HP, HZ⟩ := hrel
      by_cases hkt : k < 8
      · have hki : (k : Int) < 8 := by omega
        go_wp2_with fail
        refine (next_c w.heap.size g0 _ 6 _ HP.out.made.nm.tape (by omega) (by omega) (by omega)).mono ?_
        rintro e w10 ⟨r, hr6, rfl, ht10, hg10⟩
        have HP10 := Lib.hid (HP.out.next ht10 hg10)
        have HZ10 := Lib.hid (HP.out.body HZ.out hg10 (by omega))
        clear ht10 hg10 HP HZ
        have HPd := Lib.hid (HP10.out.drew)
        have HZd : Hid (BodAt w10.drew Z ⟨fc, fd, fs, true⟩) := Lib.hid HZ10.out
        obtain ⟨x0, x1, x2, x3, x4, x5, x6, x7⟩ := HPd.out.box
        clear HP10 HZ10
        go_wp2_with fail
        go_region_held3 (fun W => W.cell? ⟨X, 0, none⟩ = some (.slice Ab N.blocks.length cb) ∧ W.cell? ⟨X, 1, none⟩ = some (.slice An N.next.length cn) ∧ W.cell? ⟨X, 2, none⟩ = some (.slice As N.spurs.length cs) ∧ W.cell? ⟨X, 3, none⟩ = some (.slice Ar N.robots.length cr) ∧ W.cell? ⟨X, 4, none⟩ = some (Iv N.queue) ∧ W.cell? ⟨X, 5, none⟩ = some (Iv N.aging) ∧ W.cell? ⟨X, 6, none⟩ = some (Iv N.detours) ∧ W.cell? ⟨X, 7, none⟩ = some (Iv N.patience)) (first | exact HP13.out.box | exact HP12.out.box | exact HPd.out.box) (first | (go_at_call 10; refine (next_c w.heap.size g0 _ (c : Int) _ HPd.out.made.nm.tape (by omega) (by omega) (by omega)).mono ?_; rintro e w12 ⟨z, hz, rfl, ht12, hg12⟩; have HP12 := Lib.hid (HPd.out.next ht12 hg12); have HZ12 := Lib.hid (HPd.out.body HZd.out hg12 (by omega)); clear ht12 hg12) | (go_at_call 13; obtain ⟨xs, _, _, _, hF0⟩ := nextMade Ab An As Ar cb cn cs cr N fc w12 HP12.out.made.nm.at_ HOk.out HCr.out HFc.out; have hF := hF0 (z : Int); generalize decide ((z : Int) ∈ xs) = res at *; refine (act_c Ab An As Ar cb cn cs cr N A d 1 [⟨fc, fd, fs, true⟩] rfl 0 (r : Int) (z : Int) res w12 HP12.out.holds (by decide) ⟨by omega, by omega⟩ hF).mono ?_; have HAx := Lib.hid (HAf.out res (r : Int) (z : Int) ⟨by omega, by omega⟩ ⟨by omega, by omega⟩); rintro e w13 ⟨v13, rfl, ho13, hb13⟩; have HP13 := Lib.hid (HP12.out.keep hb13); have HZ13 := Lib.hid (HZ12.out.keep hb13); have HO13 := Lib.hid (HP12.out.put hb13 ho13); clear ho13 hb13 hF hF0; generalize doE res [(⟨fc, fd, fs, true⟩ : BodD)] 0 (r : Int) (aC (r : Int) (z : Int)) = E at *; generalize doL res [(⟨fc, fd, fs, true⟩ : BodD)] 0 (r : Int) (aC (r : Int) (z : Int)) = L at *))
        all_goals clear HPd HZd HP12 HZ12 x0 x1 x2 x3 x4 x5 x6 x7
        all_goals (
          rcases HAx.out with ⟨h5, hE, hL⟩ | ⟨h5, hE⟩
          · subst hE hL
            clear HP13 HAx
            obtain ⟨A13, d13, rfl, _⟩ := HO13.out.own.form
            have HP14 : Hid (PN w w2 g0 (305 + 2 * (k + 1)) X top N Ab An As Ar cb cn cs cr (.slice A13 1 d13) [⟨fc, fd, fs, true⟩] w13) := Lib.hid (HO13.out.more (by omega))
            obtain ⟨b13, o13, rfl, y0, y1, y2, y3⟩ := one_cells HP14.out.holds
            obtain ⟨z0, z1, z2, z3⟩ := HZ13.out.cell
            have hef := fun W => bod_eq ⟨fc, fd, fs, true⟩ ⟨fc, fd, fs, true⟩ W
            simp only [decide_true] at hef
            have hgd := guard_bod
            dsimp only at y0 y1 y2 y3 z0 z1 z2 z3
            clear HO13
            go_wp2
            go_quiet (fail)
            go_wp2
            go_roundw
            case rel => exact ⟨k + 1, _, _, rfl, by go_num, by omega, Lib.hid HP14.out.drewN, Lib.hid (HZ13.out.keep (below_drewN (Below.refl _ _) _))⟩
            case measure => simp [intOf]; omega
          · subst hE
            have HP14 : Hid (PN w w2 g0 (305 + 2 * (k + 1)) X top N Ab An As Ar cb cn cs cr (.slice A 1 d) [⟨fc, fd, fs, true⟩] w13) := Lib.hid (HP13.out.more (by omega))
            clear HP13 HAx HO13
            go_wp2
            go_quiet (fail)
            go_wp2
            go_roundw
            case rel => exact ⟨k + 1, _, _, rfl, by go_num, by omega, Lib.hid HP14.out.drewN, Lib.hid (HZ13.out.keep (below_drewN (Below.refl _ _) _))⟩
            case measure => simp [intOf]; omega)
      · have hki : ¬ (k : Int) < 8 := by omega
        have hD := devLift_c A d 1 [⟨fc, fd, fs, true⟩] rfl 0 false _ HP.out.holds (by decide)
        rw [(HLf.out false).1, (HLf.out false).2] at hD
        have HD := Lib.hid hD
        clear hD HZ
        go_wp2_with fail
        refine HD.out.mono ?_
        rintro e w10 ⟨v10, rfl, ho10, hb10⟩
        have HP10 := Lib.hid (HP.out.put hb10 ho10)
        obtain ⟨A10, d10, rfl, _⟩ := ho10.form
        obtain ⟨b10, o10, rfl, y0, y1, y2, y3⟩ := one_cells HP10.out.holds
        have hef := fun W => bod_eq offB offB W
        simp only [decide_true] at hef
        have hgd := guard_bod
        have HBw := Lib.hid HP10.out.made.below
        rw [show offB = ⟨-1, -1, false, false⟩ from rfl] at y0 y1 y2 y3 hef
        dsimp only at y0 y1 y2 y3 hef
        clear ho10 hb10 HP HP10 HD
        go_wp2
        go_ret
        exact ⟨by first | rfl | simp, HBw.out⟩
end Go.Proofs.Ytjbhmeeebacnpaa

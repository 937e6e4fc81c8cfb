/- Joined texts. -/
import Derived.Test.YtpdjcccpohnmcaaDoorGrHas
import Derived.Test.YtpdjcccpohnmcaaDoorRcSpec
import Derived.Test.YtpdjcccpohnmcaaDoorTape
namespace Go.Proofs.YtpdjcccpohnmcaaDoor
open Go Go.RowKit Fl

theorem insL_sorted : ∀ {l : List Int} {x : Int}, l.Pairwise (· < ·) → x ∉ l → (insL l x).Pairwise (· < ·)
  | [], x, _, _ => by simp [insL]
  | y :: l, x, h, hx => by
    have h1 := List.pairwise_cons.1 h
    have hxy : x ≠ y := fun e => hx (by simp [e])
    have hxl : x ∉ l := fun e => hx (by simp [e])
    unfold insL
    split
    · refine .cons (fun z hz => ?_) h
      rcases List.mem_cons.1 hz with rfl | hz
      · assumption
      · have := h1.1 z hz; omega
    · refine .cons (fun z hz => ?_) (insL_sorted h1.2 hxl)
      rcases (insL_mem l x z).1 hz with rfl | hz
      · omega
      · exact h1.1 z hz
/-- Graphs as they are made: n vertices, rows ascending, to other vertices. -/
structure GrOk (n : Nat) (g : GraphD) : Prop where
  len : g.length = n
  sorted : ∀ r ∈ g, r.Pairwise (· < ·)
  range : ∀ (k : Nat) (hk : k < g.length), ∀ x ∈ g[k], 0 ≤ x ∧ x < n ∧ x ≠ k
theorem GrOk.valid {n : Nat} {g : GraphD} (h : GrOk n g) (hn : n ≤ 24) : validG g = true :=
  validG_mk (by rw [h.len]; exact hn) (fun k hk => h.sorted _ (List.getElem_mem hk)) (fun k hk x hx => by have := h.range k hk x hx; rw [h.len]; exact this)
theorem grOk_empty (n : Nat) : GrOk n (List.replicate n []) :=
  ⟨by simp, fun r hr => by rw [List.eq_of_mem_replicate hr]; exact .nil, fun k hk x hx => by simp at hx⟩
theorem GrOk.put {n : Nat} {g : GraphD} (h : GrOk n g) {v : Nat} {x : Int} (hv : v < g.length) (hx : 0 ≤ x ∧ x < n ∧ x ≠ v) (hn : x ∉ g[v]) : GrOk n (g.set v (insL g[v] x)) := by
  refine ⟨by simpa using h.len, fun r hr => ?_, fun k hk y hy => ?_⟩
  · rcases List.mem_or_eq_of_mem_set hr with hr | rfl
    · exact h.sorted r hr
    · exact insL_sorted (h.sorted _ (List.getElem_mem hv)) hn
  · rw [List.getElem_set] at hy
    split at hy
    · rename_i e
      subst e
      rcases (insL_mem _ _ _).1 hy with rfl | hy
      · exact hx
      · exact h.range v hv y hy
    · exact h.range k (by simpa using hk) y hy
/-- Rows of the call's own: the slice v holds slices that hold the rows of g, all of them in memory from block base on. -/
def RowsOwn (w : World) (base : Nat) (v : Value) (g : GraphD) : Prop :=
  ∃ vs : List Value, vs.length = g.length ∧ w.ownsRow base 25 1 v g.length vs ∧ ∀ (k : Nat) (u : Value) (r : List Int), vs[k]? = some u → g[k]? = some r → w.ownsRow base 3 1 u r.length (r.map Iv)
theorem RowsOwn.keep {w w' : World} {base : Nat} {v : Value} {g : GraphD} (h : RowsOwn w base v g) (hb : Below w.heap.size w w') : RowsOwn w' base v g := by
  obtain ⟨vs, h1, h2, h3⟩ := h
  exact ⟨vs, h1, ownsRow_below h2 hb, fun k u r hk hr => ownsRow_below (h3 k u r hk hr) hb⟩
theorem RowsOwn.but {w w' : World} {base q : Nat} {v : Value} {g : GraphD} (h : RowsOwn w base v g) (hw : w.grownBy w' (some q)) (hq : q < base) : RowsOwn w' base v g := by
  have key : ∀ {e : TypeId} {n : Nat} {u : Value} {xs : List Value}, w.ownsRow base e 1 u n xs → w'.ownsRow base e 1 u n xs := fun h => by
    obtain ⟨h1, hr⟩ := h
    refine ⟨h1, ?_⟩
    rcases hr with hr | ⟨b, cap, cur, hv, hgb, hh, hrest⟩
    · exact .inl hr
    · exact .inr ⟨b, cap, cur, hv, hgb, (hw.block b (block_lt hh) (fun e => by injection e with e; omega)).trans hh, hrest⟩
  obtain ⟨vs, h1, h2, h3⟩ := h
  exact ⟨vs, h1, key h2, fun k u r hk hr => key (h3 k u r hk hr)⟩
theorem RowsOwn.at_ {w : World} {base : Nat} {v : Value} {g : GraphD} (h : RowsOwn w base v g) : ∃ A c, v = .slice A g.length c ∧ RowsAt w A g := by
  obtain ⟨vs, h1, h2, h3⟩ := h
  obtain ⟨A, c, rfl, hh⟩ := own_is h2
  refine ⟨A, c, rfl, ?_⟩
  rcases Nat.eq_zero_or_pos g.length with h0 | h0
  · exact .inl (List.eq_nil_of_length_eq_zero h0)
  · obtain ⟨b, o, rfl, hlt, hc⟩ := hh.at_ (by omega)
    refine .inr ⟨b, o, rfl, hlt, fun k hk => ?_⟩
    have e1 := List.getElem?_eq_getElem (l := vs) (i := k) (by omega)
    have e2 := List.getElem?_eq_getElem hk
    have h4 := h3 k _ _ e1 e2
    obtain ⟨A1, c1, hv, h5⟩ := own_is h4
    refine ⟨A1, c1, ?_, h5⟩
    rw [hc k (by omega), hv]
/-- A row is put into the place of another one. -/
theorem RowsOwn.put {w w' : World} {base q cap k : Nat} {g : GraphD} {u : Value} {r : List Int} (h : RowsOwn w base (.slice (some ⟨q, 0, none⟩) g.length cap) g) (hr : w.ownsRow base 3 1 u r.length (r.map Iv)) (hw : w' = w.setCell ⟨q, k, none⟩ u) : RowsOwn w' base (.slice (some ⟨q, 0, none⟩) g.length cap) (g.set k r) := by
  subst hw
  obtain ⟨vs, h1, h2, h3⟩ := h
  have hq : ∃ cs, w.heap[q]? = some (.cells cs 25 (0, 0)) := by
    obtain ⟨_, h⟩ := h2
    rcases h with ⟨hv, _⟩ | ⟨g', cap', cur, hv, _, hh, _⟩
    · cases hv
    · injection hv with hA _ _
      injection hA with hA
      injection hA with hA
      subst hA
      exact ⟨cur, hh⟩
  obtain ⟨cs, hq⟩ := hq
  have key : ∀ {n : Nat} {u' : Value} {xs : List Value}, w.ownsRow base 3 1 u' n xs → (w.setCell ⟨q, k, none⟩ u).ownsRow base 3 1 u' n xs := fun h => by
    obtain ⟨h1, hr⟩ := h
    refine ⟨h1, ?_⟩
    rcases hr with hr | ⟨b, cap, cur, hv, hgb, hh, hrest⟩
    · exact .inl hr
    · refine .inr ⟨b, cap, cur, hv, hgb, (Below.heap_setCell _ _ _ _ (fun e => ?_)).trans hh, hrest⟩
      simp only at e
      subst e
      rw [hh] at hq
      injection hq with hq
      injection hq with _ h2
      exact absurd h2 (by decide)
  refine ⟨vs.set k u, by simpa using h1, by rw [List.length_set]; exact own_put h2, fun i u' r' hi hr' => ?_⟩
  rw [List.getElem?_set] at hi hr'
  by_cases e : k = i
  · subst e
    rw [if_pos rfl] at hi hr'
    split at hi
    · split at hr'
      · injection hi with hi
        injection hr' with hr'
        subst hi hr'
        exact key hr
      · cases hr'
    · cases hi
  · rw [if_neg e] at hi hr'
    exact key (h3 i u' r' hi hr')
theorem RowsOwn.cell {w : World} {base q n cap k : Nat} {g : GraphD} (h : RowsOwn w base (.slice (some ⟨q, 0, none⟩) n cap) g) (hk : k < g.length) : ∃ A1 c1, w.cell? ⟨q, k, none⟩ = some (.slice A1 g[k].length c1) ∧ w.frozen? ⟨q, k, none⟩ = false ∧ Holds w A1 (g[k].map Iv) := by
  obtain ⟨vs, h1, h2, h3⟩ := h
  have e1 := List.getElem?_eq_getElem (l := vs) (i := k) (by omega)
  obtain ⟨A1, c1, hv, h5⟩ := own_is (h3 k _ _ e1 (List.getElem?_eq_getElem hk))
  have hn : n = g.length := by
    obtain ⟨A, c, hv2, _⟩ := own_is h2
    injection hv2 with _ hn _
  subst hn
  obtain ⟨c2, c3⟩ := own_get h2 e1
  exact ⟨A1, c1, by rw [c2, hv], c3, h5⟩
/-- Below block U, but for block g, the world is as it was. -/
structure Still (g U : Nat) (w w' : World) : Prop where
  os : w'.os = w.os
  tape : w'.tape = w.tape
  output : w'.output = w.output
  size : w.heap.size ≤ w'.heap.size
  block : ∀ k, k < U → k ≠ g → w'.heap[k]? = w.heap[k]?
theorem Still.refl (g U : Nat) (w : World) : Still g U w w := ⟨rfl, rfl, rfl, Nat.le_refl _, fun _ _ _ => rfl⟩
theorem Still.trans {g U : Nat} {a b c : World} (h : Still g U a b) (k : Still g U b c) : Still g U a c :=
  ⟨k.os.trans h.os, k.tape.trans h.tape, k.output.trans h.output, Nat.le_trans h.size k.size, fun i hi hg => (k.block i hi hg).trans (h.block i hi hg)⟩
theorem Still.of_below {g U : Nat} {a b : World} (h : Below U a b) : Still g U a b := ⟨h.os, h.tape, h.output, h.size, fun k hk _ => h.block k hk⟩
theorem Still.of_grown {g U : Nat} {a b : World} (hg : a.grownBy b (some g)) (hU : U ≤ a.heap.size) : Still g U a b :=
  ⟨hg.os, hg.tape, hg.output, hg.size, fun k hk hne => hg.block k (by omega) (fun e => by injection e with e; omega)⟩
theorem Still.below {g U B : Nat} {a b : World} (h : Still g U a b) (hB : B ≤ U) (hg : B ≤ g) : Below B a b := ⟨h.os, h.tape, h.output, h.size, fun k hk => h.block k (by omega) (by omega)⟩
theorem Tryd.infoRowG : (Tryd.prog.info? 25).map (fun i => (i.zero, i.size, i.bytes)) = some (some (.slice none 0 0), 1, 24) := by kernel_rfl
theorem rowsOwn_new {w : World} {base q n : Nat} (h : w.ownsRow base 25 1 (.slice (some ⟨q, 0, none⟩) n n) n (List.replicate n (.slice none 0 0))) : RowsOwn w base (.slice (some ⟨q, 0, none⟩) n n) (List.replicate n []) := by
  refine ⟨List.replicate n (.slice none 0 0), by simp, by simpa using h, fun k u r hk hr => ?_⟩
  rw [List.getElem?_replicate] at hk hr
  by_cases hkn : k < n
  · rw [if_pos hkn] at hk hr
    injection hk with hk
    injection hr with hr
    subst hk hr
    exact World.ownsRow_nil _ _ _ _
  · rw [if_neg hkn] at hk
    cases hk
/-- What Graph returns. -/
def GraphPost (w : World) (B gt T most : Nat) (e : Ending) (w' : World) : Prop := ∃ (v : Value) (g : GraphD), e = .returned v ∧ g.length ≤ most ∧ GrOk g.length g ∧ RowsOwn w' w.heap.size v g ∧ TapeOk w' B gt (T + 1000) ∧ Still gt w.heap.size w w'
end Go.Proofs.YtpdjcccpohnmcaaDoor
namespace Go.Proofs.YtpdjcccpohnmcaaDoor
open Go Go.RowKit Fl

theorem Tryd.infoBoolS : (Tryd.prog.info? 4).map (fun i => (i.zero, i.size, i.bytes)) = some (some (.bool false), 1, 1) := by kernel_rfl
theorem own_but {w w' : World} {base q n : Nat} {e : TypeId} {v : Value} {xs : List Value} (h : w.ownsRow base e 1 v n xs) (hw : w.grownBy w' (some q)) (hq : q < base) : w'.ownsRow base e 1 v n xs := by
  obtain ⟨h1, hr⟩ := h
  refine ⟨h1, ?_⟩
  rcases hr with hr | ⟨b, cap, cur, hv, hgb, hh, hrest⟩
  · exact .inl hr
  · exact .inr ⟨b, cap, cur, hv, hgb, (hw.block b (block_lt hh) (fun e => by injection e with e; omega)).trans hh, hrest⟩
/-- What Shut returns. -/
def ShutPost (w : World) (B gt T n : Nat) (e : Ending) (w' : World) : Prop := ∃ (v : Value) (s : List Bool), e = .returned v ∧ s.length = n ∧ w'.ownsRow w.heap.size 4 1 v n (s.map Bo) ∧ TapeOk w' B gt (T + 1000) ∧ Still gt w.heap.size w w'
set_option maxRecDepth 100000 in
set_option maxHeartbeats 4000000 in
theorem shut_c (B gt T n : Nat) (w : World) (ht : TapeOk w B gt T) (hT : T ≤ 1000000) (hn : n ≤ 100) (hgt : gt < w.heap.size) :
    Calls Tryd.prog 7 #[.pointer (some ⟨gt, 0, none⟩), .int .i64 n] w (ShutPost w B gt T n) := by
  have HT := Lib.hid ht
  have hBg : B ≤ gt := by obtain ⟨_, _, _, _, _, _, _, _, h, _⟩ := ht; exact h
  clear ht
  go_enter Tryd.func7, Tryd.ntmps7
  go_wp2_with (refine make_any _ rfl _ _ 30 4 (.bool false) 1 Tryd.underlying30 Tryd.infoBoolS rfl (by decide) rfl .i64 .i64 _ _ n rfl rfl rfl rfl (by omega) ?_)
  intro w1 own1 hb1
  have HO1 : Hid (w1.ownsRow w.heap.size 4 1 (.slice (some ⟨w.heap.size, 0, none⟩) n n) n ((List.replicate n false).map Bo)) := Lib.hid (by rw [List.map_replicate]; exact own1)
  have HT1 := Lib.hid (HT.out.keep hb1)
  have HS1 : Hid (Still gt w.heap.size w w1) := Lib.hid (Still.of_below hb1)
  have hsz1 : w.heap.size < w1.heap.size := own_blk own1
  clear own1 hb1 HT
  go_wp2_with fail
  refine (next_c B gt _ 3 w1 HT1.out (by omega) (by omega) (by omega)).mono ?_
  rintro e w2 ⟨k0, hk0, rfl, ht2, hg2⟩
  have HO2 := Lib.hid (own_but HO1.out hg2 hgt)
  have HT2 := Lib.hid ht2
  have HS2 := Lib.hid (HS1.out.trans (Still.of_grown hg2 (by omega)))
  have hsz2 : w.heap.size < w2.heap.size := Nat.lt_of_lt_of_le hsz1 hg2.size
  clear HT1 HS1 HO1 ht2 hg2 hsz1
  go_wp2
  go_loopw [6] (fun v wr => ∃ (k i : Nat) (s : List Bool), v = .int .i64 k ∧ k + i = k0 ∧ s.length = n ∧ Hid (wr.ownsRow w.heap.size 4 1 (.slice (some ⟨w.heap.size, 0, none⟩) n n) n (s.map Bo)) ∧ Hid (TapeOk wr B gt (T + 1 + i)) ∧ Hid (Still gt w.heap.size w wr) ∧ w.heap.size < wr.heap.size) (fun v _ => (intOf v).toNat)
  case atStart => exact ⟨k0, 0, _, rfl, rfl, by simp, HO2, HT2, HS2, hsz2⟩
  case round =>
    clear HO2 HT2 HS2 hsz2
    obtain ⟨k, i, s, rfl, hki, hsl, HO, HT, HS, hsz⟩ := hrel
    by_cases hgo : 0 < k ∧ 0 < n
    · obtain ⟨hk, hn0⟩ := hgo
      go_wp2_with fail
      refine (next_c B gt _ n wr HT.out (by omega) (by omega) (by omega)).mono ?_
      rintro e w4 ⟨v, hv, rfl, ht4, hg4⟩
      have HO4 := Lib.hid (own_but HO.out hg4 hgt)
      have HS4 := Lib.hid (HS.out.trans (Still.of_grown hg4 (by omega)))
      have hsz4 : w.heap.size < w4.heap.size := Nat.lt_of_lt_of_le hsz hg4.size
      have HT4 := Lib.hid ht4
      clear HT HS HO ht4 hg4 hsz
      have hvn : v < n := by omega
      obtain ⟨cu, c1, c2⟩ : ∃ cu, w4.cell? ⟨w.heap.size, v, none⟩ = some cu ∧ w4.frozen? ⟨w.heap.size, v, none⟩ = false := ⟨_, own_get HO4.out (i := v) (u := Bo s[v]) (by simp [hsl, hvn])⟩
      have HO5 : Hid ((w4.setCell ⟨w.heap.size, v, none⟩ (.bool true)).ownsRow w.heap.size 4 1 (.slice (some ⟨w.heap.size, 0, none⟩) n n) n ((s.set v true).map Bo)) := Lib.hid (by rw [List.map_set]; exact own_put HO4.out)
      have HT5 : Hid (TapeOk (w4.setCell ⟨w.heap.size, v, none⟩ (.bool true)) B gt (T + 1 + (i + 1))) := Lib.hid (HT4.out.grown (row := some w.heap.size) ⟨rfl, rfl, rfl, by simp [World.setCell], fun k _ hne => Below.heap_setCell w4 ⟨w.heap.size, v, none⟩ _ k (fun e => hne (by rw [e]))⟩ (fun e => by injection e with e; omega) (fun b hb => by injection hb with hb; omega))
      have HS5 : Hid (Still gt w.heap.size w (w4.setCell ⟨w.heap.size, v, none⟩ (.bool true))) := Lib.hid (HS4.out.trans (Still.of_below (below_put (Below.refl _ _) (Nat.le_refl _))))
      have hsz5 : w.heap.size < (w4.setCell ⟨w.heap.size, v, none⟩ (.bool true)).heap.size := by simp [World.setCell]; exact hsz4
      clear HT4 HS4 HO4
      go_wp2
      go_roundw
      case rel => exact ⟨k - 1, i + 1, _, by go_num, by omega, by simpa using hsl, HO5, HT5, HS5, hsz5⟩
      case measure => simp [intOf]; omega
    · have hcase : k = 0 ∨ 0 < k ∧ n = 0 := by omega
      clear hgo
      rcases hcase with rfl | ⟨hk, hn0⟩
      · go_wp2
        go_ret
        exact ⟨_, s, rfl, hsl, HO.out, HT.out.more (by omega), HS.out⟩
      · have hd : decide (0 < k) = true := by simpa using hk
        have hn1 : ¬ 0 < n := by omega
        go_wp2
        go_ret
        exact ⟨_, s, rfl, hsl, HO.out, HT.out.more (by omega), HS.out⟩
set_option maxRecDepth 100000 in
set_option maxHeartbeats 1000000 in
theorem sameIntsE_c (A1 A2 : Option Addr) (c1 c2 : Nat) (xs : List Int) (w : World) (h1 : Holds w A1 (xs.map Iv)) (h2 : Holds w A2 (xs.map Iv)) (hl : xs.length ≤ 1000000000000000000) :
    Calls Tryd.prog 19 #[.slice A1 xs.length c1, .slice A2 xs.length c2] w fun e w' => e = .returned (.bool true) ∧ ∃ n, w' = w.drewN n := by
  have H1 := Lib.hid h1
  have H2 := Lib.hid h2
  have hne : ((xs.length : Int) != (xs.length : Int)) = false := by simp
  clear h1 h2
  go_enter Tryd.func19, Tryd.ntmps19
  go_wp2
  go_loopw [5] (fun i wr => ∃ k n : Nat, i = .int .i64 k ∧ k ≤ xs.length ∧ wr = w.drewN n) (fun i _ => xs.length - (intOf i).toNat)
  case atStart => exact ⟨0, 0, rfl, Nat.zero_le _, rfl⟩
  case round =>
    obtain ⟨k, n, rfl, hk, rfl⟩ := hrel
    by_cases hlt : k < xs.length
    · obtain ⟨b1, o1, rfl, e1⟩ := H1.out.iv hlt
      obtain ⟨b2, o2, rfl, e2⟩ := H2.out.iv hlt
      have hnn : (xs[k] != xs[k]) = false := by simp
      generalize xs[k] = x at *
      clear H1 H2
      go_wp2
      go_quiet (fail)
      go_wp2
      go_roundw
      case rel => exact ⟨k + 1, _, by go_num, by omega, rfl⟩
      case measure => simp [intOf]; omega
    · clear H1 H2
      go_wp2
      go_ret
      exact ⟨rfl, n, rfl⟩
end Go.Proofs.YtpdjcccpohnmcaaDoor

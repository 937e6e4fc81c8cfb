/- Joined texts. -/
import Derived.Test.YtmdnkpiihhaoeaaChecked
import Derived.Test.YtmdnkpiihhaoeaaMzAB
import Derived.WalkKit
import Derived.ProofKit
import Derived.BigQuiet
import Derived.Lib.Hide
import Derived.Deep.QuietTactic
import Derived.Test.YtmdnkpiihhaoeaaMzAC
import Derived.Test.YtmdnkpiihhaoeaaMzAI
import Derived.Test.YtmdnkpiihhaoeaaMzAG
namespace Go.Proofs.Ytmdnkpiihhaoeaa
open Go.RowKit

def CutPost (n : Int) (e : Ending) (w w' : World) : Prop := ∃ r : Nat, (r : Int) < n ∧ e = .returned (.int .i64 r) ∧ w = w'
theorem cut_c (v n : Int) (w : World) (h1 : 1 ≤ n) (hn : n ≤ 1000000) (hv1 : -9223372036854775808 ≤ v) (hv2 : v ≤ 9223372036854775807) : Calls Try.prog 25 #[.int .i64 v, .int .i64 n] w fun e w' => CutPost n e w w' := by
  by_cases h : n ≤ 1
  · go_enter Try.func25, Try.ntmps25
    go_wp2
    go_ret
    exact ⟨0, by omega, rfl, rfl⟩
  · have hlo : -n < v.tmod n := by have := Int.lt_tmod_of_pos v (show (0 : Int) < n by omega); omega
    have hhi : v.tmod n < n := Int.tmod_lt_of_pos v (by omega)
    by_cases h0 : 0 ≤ v
    · have e0 : v.tmod n = v % n := Int.tmod_eq_emod_of_nonneg h0
      rw [e0] at hlo hhi
      have hnn : 0 ≤ v % n := Int.emod_nonneg v (by omega)
      clear e0
      go_enter Try.func25, Try.ntmps25
      go_wp2
      go_ret
      exact ⟨(v % n).toNat, by omega, by rw [Int.toNat_of_nonneg hnn]; rfl, rfl⟩
    · have h0' : v < 0 := by omega
      clear h0
      by_cases hm : v.tmod n < 0
      · have hs1 : 0 ≤ v.tmod n + n := by omega
        go_enter Try.func25, Try.ntmps25
        go_wp2
        go_ret
        exact ⟨(v.tmod n + n).toNat, by omega, by rw [Int.toNat_of_nonneg hs1]; rfl, rfl⟩
      · have hs1 : 0 ≤ v.tmod n := by omega
        go_enter Try.func25, Try.ntmps25
        go_wp2
        go_ret
        exact ⟨(v.tmod n).toNat, by omega, by rw [Int.toNat_of_nonneg hs1]; rfl, rfl⟩

/-- Block g is a tape whose list lies below block B, and whose place is at most T. -/
def TapeOk (w : World) (B g T : Nat) : Prop := ∃ (A : Option Addr) (n c at_ : Nat) (zs : List Int),
  w.heap[g]? = some (.cells #[.slice A n c, .int .i64 at_] 40 (0, 0)) ∧ zs.length = n ∧ at_ ≤ T ∧ B ≤ g ∧ n ≤ maxLen ∧
  (0 < n → ∃ b o, A = some ⟨b, o, none⟩ ∧ b < B ∧ ∀ j (h : j < zs.length), w.cell? ⟨b, o + j, none⟩ = some (.int .i64 zs[j]) ∧ -9223372036854775808 ≤ zs[j] ∧ zs[j] ≤ 9223372036854775807)
theorem TapeOk.more {w : World} {B g T T' : Nat} (h : TapeOk w B g T) (hT : T ≤ T') : TapeOk w B g T' := by
  obtain ⟨A, n, c, at_, zs, h1, h2, h3, h4⟩ := h
  exact ⟨A, n, c, at_, zs, h1, h2, Nat.le_trans h3 hT, h4⟩
/-- A tape stays where nothing below the heap's end is written. -/
theorem TapeOk.keep {w w' : World} {B g T : Nat} (h : TapeOk w B g T) (hb : Below w.heap.size w w') : TapeOk w' B g T := by
  obtain ⟨A, n, c, at_, zs, h1, h2, h3, h4, h5, h6⟩ := h
  refine ⟨A, n, c, at_, zs, (hb.block g (block_lt h1)).trans h1, h2, h3, h4, h5, fun hn => ?_⟩
  obtain ⟨b, o, hA, hlt, hc⟩ := h6 hn
  exact ⟨b, o, hA, hlt, fun j hj => ⟨(hb.cell (p := ⟨b, o + j, none⟩) (by have := block_lt h1; show b < _; omega)).trans (hc j hj).1, (hc j hj).2⟩⟩
/-- .. and where a row of the call's own, of another type, may be written. -/
theorem TapeOk.grown {w w' : World} {B g T : Nat} {row : Option Nat} (h : TapeOk w B g T) (hg : w.grownBy w' row) (hr : row ≠ some g) (hB : ∀ k, row = some k → B ≤ k) : TapeOk w' B g T := by
  obtain ⟨A, n, c, at_, zs, h1, h2, h3, h4, h5, h6⟩ := h
  refine ⟨A, n, c, at_, zs, (hg.block g (block_lt h1) (fun e => hr e.symm)).trans h1, h2, h3, h4, h5, fun hn => ?_⟩
  obtain ⟨b, o, hA, hlt, hc⟩ := h6 hn
  refine ⟨b, o, hA, hlt, fun j hj => ⟨?_, (hc j hj).2⟩⟩
  have := World.cell?_of_block (w := w) (a := ⟨b, o + j, none⟩) (hg.block b (by have := block_lt h1; omega) (fun e => by have := hB b e.symm; omega))
  rw [this]; exact (hc j hj).1
def NextPost (B g T : Nat) (n : Int) (w : World) (e : Ending) (w' : World) : Prop := ∃ r : Nat, (r : Int) < n ∧ e = .returned (.int .i64 r) ∧ TapeOk w' B g (T + 1) ∧ w.grownBy w' (some g)
theorem tape_step {w : World} {B g T len c at_ nq : Nat} {A : Option Addr} {zs : List Int} (hh : w.heap[g]? = some (.cells #[.slice A len c, .int .i64 at_] 40 (0, 0))) (hlen : zs.length = len) (hat : at_ ≤ T) (hBg : B ≤ g) (hmax : len ≤ maxLen)
    (hcells : 0 < len → ∃ b o, A = some ⟨b, o, none⟩ ∧ b < B ∧ ∀ j (h : j < zs.length), w.cell? ⟨b, o + j, none⟩ = some (.int .i64 zs[j]) ∧ -9223372036854775808 ≤ zs[j] ∧ zs[j] ≤ 9223372036854775807) :
    TapeOk ((w.drewN nq).setCell ⟨g, 1, none⟩ (.int .i64 ((at_ : Int) + 1))) B g (T + 1) ∧ w.grownBy ((w.drewN nq).setCell ⟨g, 1, none⟩ (.int .i64 ((at_ : Int) + 1))) (some g) := by
  have hg : w.grownBy ((w.drewN nq).setCell ⟨g, 1, none⟩ (.int .i64 ((at_ : Int) + 1))) (some g) := by
    refine ⟨rfl, rfl, rfl, by simp [World.setCell, World.drewN], fun i hi hne => ?_⟩
    exact Below.heap_setCell (w.drewN nq) ⟨g, 1, none⟩ _ i (fun e => hne (by rw [e]))
  refine ⟨⟨A, len, c, at_ + 1, zs, ?_, hlen, by omega, hBg, hmax, fun hn => ?_⟩, hg⟩
  · simp [World.setCell, Array.getElem?_modify]
    exact ⟨_, hh, by simp⟩
  · obtain ⟨b, o, hA, hlt, hc⟩ := hcells hn
    refine ⟨b, o, hA, hlt, fun j hj => ⟨?_, (hc j hj).2⟩⟩
    have := World.cell?_of_block (w := w) (a := ⟨b, o + j, none⟩) (hg.block b (by have := block_lt hh; omega) (fun e => by injection e with e; omega))
    rw [this]; exact (hc j hj).1
set_option maxHeartbeats 1000000 in
theorem next_c (B g T : Nat) (n : Int) (w : World) (ht : TapeOk w B g T) (hT : T ≤ 1000000000) (h1 : 1 ≤ n) (hn : n ≤ 1000000) : Calls Try.prog 11 #[.pointer (some ⟨g, 0, none⟩), .int .i64 n] w (NextPost B g T n w) := by
  obtain ⟨A, len, c, at_, zs, hh, hlen, hat, hBg, hmax, hcells⟩ := ht
  unfold maxLen at hmax
  have hHH := Lib.hid hh
  have hlt := block_lt hh
  have c0 : w.cell? ⟨g, 0, none⟩ = some (.slice A len c) := by rw [cell_of_row w g 0 _ _ (0, 0) hh]; rfl
  have c1 : w.cell? ⟨g, 1, none⟩ = some (.int .i64 at_) := by rw [cell_of_row w g 1 _ _ (0, 0) hh]; rfl
  have hfz : w.frozen? ⟨g, 1, none⟩ = false := by simp [World.frozen?, hh]
  clear hh
  have HC := Lib.hid hcells
  by_cases hin : at_ < len
  · obtain ⟨b, o, rfl, _, hc⟩ := hcells (by omega)
    obtain ⟨e1, e2, e3⟩ := hc at_ (by omega)
    have HL := Lib.hid hlen
    clear hc hcells
    generalize zs[at_] = z at *
    clear hlen
    go_enter Try.func11, Try.ntmps11
    go_wp2
    go_quiet (fail)
    go_wp2
    go_quiet (fail)
    go_wp2_with fail
    refine (cut_c _ _ _ h1 hn e2 e3).mono ?_
    rintro e w1 ⟨r, hr, rfl, rfl⟩
    go_wp2_with fail
    go_ret
    have hts := fun q => tape_step (nq := q) hHH.out HL.out hat hBg hmax HC.out
    exact ⟨r, hr, rfl, (hts _).1, (hts _).2⟩
  · clear hcells
    go_enter Try.func11, Try.ntmps11
    go_wp2
    go_quiet (fail)
    go_wp2_with fail
    refine (cut_c _ _ _ h1 hn (by omega) (by omega)).mono ?_
    rintro e w1 ⟨r, hr, rfl, rfl⟩
    go_wp2_with fail
    go_ret
    obtain ⟨h2, h3⟩ := tape_step (nq := nq) hHH.out hlen hat hBg hmax HC.out
    exact ⟨r, hr, rfl, h2, h3⟩
end Go.Proofs.Ytmdnkpiihhaoeaa
namespace Go.Proofs.Ytmdnkpiihhaoeaa
open Go Go.RowKit Fl

theorem insL_sorted : ∀ {l : List Int} {x : Int}, l.Pairwise (· < ·) → x ∉ l → (insL l x).Pairwise (· < ·)
  | [], x, _, _ => by simp [insL]
  | y :: l, x, h, hx => by
    have h1 := List.pairwise_cons.1 h
    have hxy : x ≠ y := fun e => hx (by simp [e])
    have hxl : x ∉ l := fun e => hx (by simp [e])
    unfold insL
    split
    · refine .cons (fun z hz => ?_) h
      rcases List.mem_cons.1 hz with rfl | hz
      · assumption
      · have := h1.1 z hz; omega
    · refine .cons (fun z hz => ?_) (insL_sorted h1.2 hxl)
      rcases (insL_mem l x z).1 hz with rfl | hz
      · omega
      · exact h1.1 z hz
/-- Graphs as they are made: n vertices, rows ascending, to other vertices. -/
structure GrOk (n : Nat) (g : GraphD) : Prop where
  len : g.length = n
  sorted : ∀ r ∈ g, r.Pairwise (· < ·)
  range : ∀ (k : Nat) (hk : k < g.length), ∀ x ∈ g[k], 0 ≤ x ∧ x < n ∧ x ≠ k
theorem GrOk.valid {n : Nat} {g : GraphD} (h : GrOk n g) (hn : n ≤ 24) : validG g = true :=
  validG_mk (by rw [h.len]; exact hn) (fun k hk => h.sorted _ (List.getElem_mem hk)) (fun k hk x hx => by have := h.range k hk x hx; rw [h.len]; exact this)
theorem grOk_empty (n : Nat) : GrOk n (List.replicate n []) :=
  ⟨by simp, fun r hr => by rw [List.eq_of_mem_replicate hr]; exact .nil, fun k hk x hx => by simp at hx⟩
theorem GrOk.put {n : Nat} {g : GraphD} (h : GrOk n g) {v : Nat} {x : Int} (hv : v < g.length) (hx : 0 ≤ x ∧ x < n ∧ x ≠ v) (hn : x ∉ g[v]) : GrOk n (g.set v (insL g[v] x)) := by
  refine ⟨by simpa using h.len, fun r hr => ?_, fun k hk y hy => ?_⟩
  · rcases List.mem_or_eq_of_mem_set hr with hr | rfl
    · exact h.sorted r hr
    · exact insL_sorted (h.sorted _ (List.getElem_mem hv)) hn
  · rw [List.getElem_set] at hy
    split at hy
    · rename_i e
      subst e
      rcases (insL_mem _ _ _).1 hy with rfl | hy
      · exact hx
      · exact h.range v hv y hy
    · exact h.range k (by simpa using hk) y hy
/-- Rows of the call's own: the slice v holds slices that hold the rows of g, all of them in memory from block base on. -/
def RowsOwn (w : World) (base : Nat) (v : Value) (g : GraphD) : Prop :=
  ∃ vs : List Value, vs.length = g.length ∧ w.ownsRow base 25 1 v g.length vs ∧ ∀ (k : Nat) (u : Value) (r : List Int), vs[k]? = some u → g[k]? = some r → w.ownsRow base 3 1 u r.length (r.map Iv)
theorem RowsOwn.keep {w w' : World} {base : Nat} {v : Value} {g : GraphD} (h : RowsOwn w base v g) (hb : Below w.heap.size w w') : RowsOwn w' base v g := by
  obtain ⟨vs, h1, h2, h3⟩ := h
  exact ⟨vs, h1, ownsRow_below h2 hb, fun k u r hk hr => ownsRow_below (h3 k u r hk hr) hb⟩
theorem RowsOwn.but {w w' : World} {base q : Nat} {v : Value} {g : GraphD} (h : RowsOwn w base v g) (hw : w.grownBy w' (some q)) (hq : q < base) : RowsOwn w' base v g := by
  have key : ∀ {e : TypeId} {n : Nat} {u : Value} {xs : List Value}, w.ownsRow base e 1 u n xs → w'.ownsRow base e 1 u n xs := fun h => by
    obtain ⟨h1, hr⟩ := h
    refine ⟨h1, ?_⟩
    rcases hr with hr | ⟨b, cap, cur, hv, hgb, hh, hrest⟩
    · exact .inl hr
    · exact .inr ⟨b, cap, cur, hv, hgb, (hw.block b (block_lt hh) (fun e => by injection e with e; omega)).trans hh, hrest⟩
  obtain ⟨vs, h1, h2, h3⟩ := h
  exact ⟨vs, h1, key h2, fun k u r hk hr => key (h3 k u r hk hr)⟩
theorem RowsOwn.at_ {w : World} {base : Nat} {v : Value} {g : GraphD} (h : RowsOwn w base v g) : ∃ A c, v = .slice A g.length c ∧ RowsAt w A g := by
  obtain ⟨vs, h1, h2, h3⟩ := h
  obtain ⟨A, c, rfl, hh⟩ := own_is h2
  refine ⟨A, c, rfl, ?_⟩
  rcases Nat.eq_zero_or_pos g.length with h0 | h0
  · exact .inl (List.eq_nil_of_length_eq_zero h0)
  · obtain ⟨b, o, rfl, hlt, hc⟩ := hh.at_ (by omega)
    refine .inr ⟨b, o, rfl, hlt, fun k hk => ?_⟩
    have e1 := List.getElem?_eq_getElem (l := vs) (i := k) (by omega)
    have e2 := List.getElem?_eq_getElem hk
    have h4 := h3 k _ _ e1 e2
    obtain ⟨A1, c1, hv, h5⟩ := own_is h4
    refine ⟨A1, c1, ?_, h5⟩
    rw [hc k (by omega), hv]
/-- A row is put into the place of another one. -/
theorem RowsOwn.put {w w' : World} {base q cap k : Nat} {g : GraphD} {u : Value} {r : List Int} (h : RowsOwn w base (.slice (some ⟨q, 0, none⟩) g.length cap) g) (hr : w.ownsRow base 3 1 u r.length (r.map Iv)) (hw : w' = w.setCell ⟨q, k, none⟩ u) : RowsOwn w' base (.slice (some ⟨q, 0, none⟩) g.length cap) (g.set k r) := by
  subst hw
  obtain ⟨vs, h1, h2, h3⟩ := h
  have hq : ∃ cs, w.heap[q]? = some (.cells cs 25 (0, 0)) := by
    obtain ⟨_, h⟩ := h2
    rcases h with ⟨hv, _⟩ | ⟨g', cap', cur, hv, _, hh, _⟩
    · cases hv
    · injection hv with hA _ _
      injection hA with hA
      injection hA with hA
      subst hA
      exact ⟨cur, hh⟩
  obtain ⟨cs, hq⟩ := hq
  have key : ∀ {n : Nat} {u' : Value} {xs : List Value}, w.ownsRow base 3 1 u' n xs → (w.setCell ⟨q, k, none⟩ u).ownsRow base 3 1 u' n xs := fun h => by
    obtain ⟨h1, hr⟩ := h
    refine ⟨h1, ?_⟩
    rcases hr with hr | ⟨b, cap, cur, hv, hgb, hh, hrest⟩
    · exact .inl hr
    · refine .inr ⟨b, cap, cur, hv, hgb, (Below.heap_setCell _ _ _ _ (fun e => ?_)).trans hh, hrest⟩
      simp only at e
      subst e
      rw [hh] at hq
      injection hq with hq
      injection hq with _ h2
      exact absurd h2 (by decide)
  refine ⟨vs.set k u, by simpa using h1, by rw [List.length_set]; exact own_put h2, fun i u' r' hi hr' => ?_⟩
  rw [List.getElem?_set] at hi hr'
  by_cases e : k = i
  · subst e
    rw [if_pos rfl] at hi hr'
    split at hi
    · split at hr'
      · injection hi with hi
        injection hr' with hr'
        subst hi hr'
        exact key hr
      · cases hr'
    · cases hi
  · rw [if_neg e] at hi hr'
    exact key (h3 i u' r' hi hr')
theorem RowsOwn.cell {w : World} {base q n cap k : Nat} {g : GraphD} (h : RowsOwn w base (.slice (some ⟨q, 0, none⟩) n cap) g) (hk : k < g.length) : ∃ A1 c1, w.cell? ⟨q, k, none⟩ = some (.slice A1 g[k].length c1) ∧ w.frozen? ⟨q, k, none⟩ = false ∧ Holds w A1 (g[k].map Iv) := by
  obtain ⟨vs, h1, h2, h3⟩ := h
  have e1 := List.getElem?_eq_getElem (l := vs) (i := k) (by omega)
  obtain ⟨A1, c1, hv, h5⟩ := own_is (h3 k _ _ e1 (List.getElem?_eq_getElem hk))
  have hn : n = g.length := by
    obtain ⟨A, c, hv2, _⟩ := own_is h2
    injection hv2 with _ hn _
  subst hn
  obtain ⟨c2, c3⟩ := own_get h2 e1
  exact ⟨A1, c1, by rw [c2, hv], c3, h5⟩
/-- Below block U, but for block g, the world is as it was. -/
structure Still (g U : Nat) (w w' : World) : Prop where
  os : w'.os = w.os
  tape : w'.tape = w.tape
  output : w'.output = w.output
  size : w.heap.size ≤ w'.heap.size
  block : ∀ k, k < U → k ≠ g → w'.heap[k]? = w.heap[k]?
theorem Still.refl (g U : Nat) (w : World) : Still g U w w := ⟨rfl, rfl, rfl, Nat.le_refl _, fun _ _ _ => rfl⟩
theorem Still.trans {g U : Nat} {a b c : World} (h : Still g U a b) (k : Still g U b c) : Still g U a c :=
  ⟨k.os.trans h.os, k.tape.trans h.tape, k.output.trans h.output, Nat.le_trans h.size k.size, fun i hi hg => (k.block i hi hg).trans (h.block i hi hg)⟩
theorem Still.of_below {g U : Nat} {a b : World} (h : Below U a b) : Still g U a b := ⟨h.os, h.tape, h.output, h.size, fun k hk _ => h.block k hk⟩
theorem Still.of_grown {g U : Nat} {a b : World} (hg : a.grownBy b (some g)) (hU : U ≤ a.heap.size) : Still g U a b :=
  ⟨hg.os, hg.tape, hg.output, hg.size, fun k hk hne => hg.block k (by omega) (fun e => by injection e with e; omega)⟩
theorem Still.below {g U B : Nat} {a b : World} (h : Still g U a b) (hB : B ≤ U) (hg : B ≤ g) : Below B a b := ⟨h.os, h.tape, h.output, h.size, fun k hk => h.block k (by omega) (by omega)⟩
theorem Try.infoRowG : (Try.prog.info? 25).map (fun i => (i.zero, i.size, i.bytes)) = some (some (.slice none 0 0), 1, 24) := by kernel_rfl
theorem rowsOwn_new {w : World} {base q n : Nat} (h : w.ownsRow base 25 1 (.slice (some ⟨q, 0, none⟩) n n) n (List.replicate n (.slice none 0 0))) : RowsOwn w base (.slice (some ⟨q, 0, none⟩) n n) (List.replicate n []) := by
  refine ⟨List.replicate n (.slice none 0 0), by simp, by simpa using h, fun k u r hk hr => ?_⟩
  rw [List.getElem?_replicate] at hk hr
  by_cases hkn : k < n
  · rw [if_pos hkn] at hk hr
    injection hk with hk
    injection hr with hr
    subst hk hr
    exact World.ownsRow_nil _ _ _ _
  · rw [if_neg hkn] at hk
    cases hk
/-- What Graph returns. -/
def GraphPost (w : World) (B gt T most : Nat) (e : Ending) (w' : World) : Prop := ∃ (v : Value) (g : GraphD), e = .returned v ∧ g.length ≤ most ∧ GrOk g.length g ∧ RowsOwn w' w.heap.size v g ∧ TapeOk w' B gt (T + 1000) ∧ Still gt w.heap.size w w'
end Go.Proofs.Ytmdnkpiihhaoeaa
namespace Go.Proofs.Ytmdnkpiihhaoeaa
open Go Go.RowKit Fl

def bnm (i : Nat) : List UInt8 := 98 :: dec i
def snm (i : Nat) : List UInt8 := 115 :: dec i
theorem nm_ok : ∀ i, i < 10 → name (bnm i) = true ∧ name (snm i) = true := by decide +kernel
theorem nm_inj : ∀ i, i < 10 → ∀ j, j < 10 → (bnm i = bnm j → i = j) ∧ (snm i = snm j → i = j) ∧ bnm i ≠ snm j := by decide +kernel
/-- The blocks that are made. -/
structure MadeB (l : List BlockD) : Prop where
  few : l.length ≤ 8
  named : ∀ k (h : k < l.length), l[k].name = bnm k
  places : ∀ b ∈ l, -9999 ≤ b.x ∧ b.x ≤ 9999 ∧ -9999 ≤ b.y ∧ b.y ≤ 9999
theorem MadeB.nil : MadeB [] := ⟨by simp, fun k h => by simp at h, fun b hb => by simp at hb⟩
theorem MadeB.push {l : List BlockD} (h : MadeB l) (hl : l.length < 8) {x y : Int} (hx : -9999 ≤ x ∧ x ≤ 9999) (hy : -9999 ≤ y ∧ y ≤ 9999) : MadeB (l ++ [⟨bnm l.length, x, y⟩]) := by
  refine ⟨by simp; omega, fun k hk => ?_, fun b hb => ?_⟩
  · rw [List.getElem_append]
    split
    · exact h.named k _
    · have : k = l.length := by simp at hk; omega
      subst this
      simp
  · rcases List.mem_append.1 hb with hb | hb
    · exact h.places b hb
    · simp at hb
      subst hb
      exact ⟨hx.1, hx.2, hy.1, hy.2⟩
/-- The spurs that are made. -/
structure MadeS (nb : Nat) (l : List SpurD) : Prop where
  few : l.length ≤ 6
  named : ∀ k (h : k < l.length), l[k].name = snm k
  ok : ∀ s ∈ l, SpurOk nb s
  bases : ∀ k (h : k < l.length), l[k].base = nb + slotsK l k
  first : ∀ (h : 0 < l.length), l[0].depot = true
theorem MadeS.nil (nb : Nat) : MadeS nb [] := ⟨by simp, fun k h => by simp at h, fun s hs => by simp at hs, fun k h => by simp at h, fun h => by simp at h⟩
theorem slotsK_left {l : List SpurD} {s : SpurD} {k : Nat} (h : k ≤ l.length) : slotsK (l ++ [s]) k = slotsK l k := by
  unfold slotsK
  rw [List.take_append_of_le_length h]
theorem MadeS.push {nb : Nat} {l : List SpurD} (h : MadeS nb l) (hl : l.length < 6) {s : SpurD} (hn : s.name = snm l.length) (ho : SpurOk nb s) (hb : s.base = nb + slotsK l l.length) (hd : l.length = 0 → s.depot = true) : MadeS nb (l ++ [s]) := by
  refine ⟨by simp; omega, fun k hk => ?_, fun x hx => ?_, fun k hk => ?_, fun h0 => ?_⟩
  · rw [List.getElem_append]
    split
    · exact h.named k _
    · have : k = l.length := by simp at hk; omega
      subst this
      simpa using hn
  · rcases List.mem_append.1 hx with hx | hx
    · exact h.ok x hx
    · simp at hx
      subst hx
      exact ho
  · have hk' : k ≤ l.length := by simp at hk; omega
    rw [slotsK_left hk', List.getElem_append]
    split
    · exact h.bases k _
    · have : k = l.length := by omega
      subst this
      simpa using hb
  · rw [List.getElem_append]
    split
    · exact h.first _
    · have : l.length = 0 := by omega
      simpa using hd this
theorem slotsK_push (l : List SpurD) (s : SpurD) : slotsK (l ++ [s]) (l ++ [s]).length = slotsK l l.length + s.slots := by
  unfold slotsK
  rw [List.take_of_length_le (Nat.le_refl _), List.take_of_length_le (Nat.le_refl _), List.map_append, List.sum_append]
  simp
/-- What Net makes is valid. -/
theorem made_ok {N : NetD} (hb : MadeB N.blocks) (h1 : 1 ≤ N.blocks.length) (hl : N.next.length = N.blocks.length) (hg : GrOk N.blocks.length N.next) (ho : ∀ r ∈ N.next, r.length ≤ 4) (hs : MadeS N.blocks.length N.spurs) (h2 : 1 ≤ N.spurs.length) (hc : ConfOk N.queue N.aging N.detours N.patience) (hr : N.robots.length ≤ 8) (hd : ∀ x ∈ N.robots, inDepot N.spurs x) (hn : N.robots.Nodup) : NetOk N := by
  have b8 := hb.few
  have s6 := hs.few
  refine ⟨h1, by omega, hl, hb.places, ho, hg.valid (by omega), s6, fun x hx => ?_, ?_, hr, hc, hs.ok, hs.bases, hd, hn, ⟨N.spurs[0], List.getElem_mem _, hs.first h2⟩⟩
  · rcases List.mem_append.1 hx with hx | hx
    · obtain ⟨b, hb1, rfl⟩ := List.mem_map.1 hx
      obtain ⟨k, hk, rfl⟩ := List.mem_iff_getElem.1 hb1
      rw [hb.named k hk]
      exact (nm_ok k (by omega)).1
    · obtain ⟨b, hb1, rfl⟩ := List.mem_map.1 hx
      obtain ⟨k, hk, rfl⟩ := List.mem_iff_getElem.1 hb1
      rw [hs.named k hk]
      exact (nm_ok k (by omega)).2
  · refine List.nodup_append.2 ⟨?_, ?_, fun x hx y hy e => ?_⟩
    · refine List.pairwise_iff_getElem.2 fun i j hi hj hij e => ?_
      rw [List.getElem_map, List.getElem_map, hb.named, hb.named] at e
      rw [List.length_map] at hi hj
      have := (nm_inj i (by omega) j (by omega)).1 e
      omega
    · refine List.pairwise_iff_getElem.2 fun i j hi hj hij e => ?_
      rw [List.getElem_map, List.getElem_map, hs.named, hs.named] at e
      rw [List.length_map] at hi hj
      have := (nm_inj i (by omega) j (by omega)).2.1 e
      omega
    · obtain ⟨b, hb1, rfl⟩ := List.mem_map.1 hx
      obtain ⟨k, hk, rfl⟩ := List.mem_iff_getElem.1 hb1
      obtain ⟨s, hs1, rfl⟩ := List.mem_map.1 hy
      obtain ⟨m, hm, rfl⟩ := List.mem_iff_getElem.1 hs1
      rw [hb.named k hk, hs.named m hm] at e
      exact (nm_inj k (by omega) m (by omega)).2.2 e
/-! ### Lanes -/
theorem GrOk.row {n : Nat} {g : GraphD} (h : GrOk n g) {v : Nat} {r : List Int} (hs : r.Pairwise (· < ·)) (hx : ∀ x ∈ r, 0 ≤ x ∧ x < n ∧ x ≠ v) : GrOk n (g.set v r) := by
  refine ⟨by simpa using h.len, fun r' hr => ?_, fun k hk y hy => ?_⟩
  · rcases List.mem_or_eq_of_mem_set hr with hr | rfl
    · exact h.sorted r' hr
    · exact hs
  · rw [List.getElem_set] at hy
    split at hy
    · rename_i e
      subst e
      exact hx y hy
    · exact h.range k (by simpa using hk) y hy
theorem outs_set {g : GraphD} {v : Nat} {r : List Int} (h : ∀ r ∈ g, r.length ≤ 4) (hr : r.length ≤ 4) : ∀ x ∈ g.set v r, x.length ≤ 4 := fun x hx => by
  rcases List.mem_or_eq_of_mem_set hx with hx | rfl
  · exact h x hx
  · exact hr
/-! ### Free slots -/
def cellsS (s : SpurD) : List Int := if s.depot then (List.range s.slots.toNat).map (fun j : Nat => s.base + j) else []
/-- The free slots of the first k spurs. -/
def freeK (l : List SpurD) (rb : List Int) (k : Nat) : List Int := (l.take k).flatMap (fun s => (cellsS s).filter (fun x => !rb.contains x))
def depK (l : List SpurD) (k : Nat) : List Int := (l.take k).flatMap cellsS
theorem freeK_succ {l : List SpurD} {rb : List Int} {k : Nat} (h : k < l.length) : freeK l rb (k + 1) = freeK l rb k ++ (cellsS l[k]).filter (fun x => !rb.contains x) := by
  unfold freeK
  rw [List.take_succ_eq_append_getElem h, List.flatMap_append]
  simp
theorem depK_succ {l : List SpurD} {k : Nat} (h : k < l.length) : depK l (k + 1) = depK l k ++ cellsS l[k] := by
  unfold depK
  rw [List.take_succ_eq_append_getElem h, List.flatMap_append]
  simp
theorem cellsS_mem {s : SpurD} {x : Int} : x ∈ cellsS s ↔ s.depot = true ∧ s.base ≤ x ∧ x < s.base + s.slots := by
  unfold cellsS
  by_cases h : s.depot = true
  · rw [if_pos h]
    simp only [List.mem_map, List.mem_range, h, true_and]
    constructor
    · rintro ⟨j, hj, rfl⟩; omega
    · intro hx; exact ⟨(x - s.base).toNat, by omega, by omega⟩
  · rw [if_neg h]; simp [h]
theorem freeK_mem {l : List SpurD} {rb : List Int} {k : Nat} {x : Int} : x ∈ freeK l rb k ↔ (∃ s ∈ l.take k, s.depot = true ∧ s.base ≤ x ∧ x < s.base + s.slots) ∧ x ∉ rb := by
  unfold freeK
  simp only [List.mem_flatMap, List.mem_filter, cellsS_mem]
  constructor
  · rintro ⟨s, h1, h2, h3⟩; exact ⟨⟨s, h1, h2⟩, by simpa using h3⟩
  · rintro ⟨⟨s, h1, h2⟩, h3⟩; exact ⟨s, h1, h2, by simpa using h3⟩
theorem depK_mem {l : List SpurD} {k : Nat} {x : Int} : x ∈ depK l k ↔ ∃ s ∈ l.take k, s.depot = true ∧ s.base ≤ x ∧ x < s.base + s.slots := by
  unfold depK
  simp only [List.mem_flatMap, cellsS_mem]
theorem cellsS_length {s : SpurD} (h : 0 ≤ s.slots) : ((cellsS s).length : Int) = if s.depot then s.slots else 0 := by
  unfold cellsS
  split
  · rw [List.length_map, List.length_range]; omega
  · rfl
theorem cellsS_nodup (s : SpurD) : (cellsS s).Nodup := by
  unfold cellsS
  split
  · unfold List.Nodup
    rw [List.pairwise_map]
    exact List.nodup_range.imp fun h e => h (by omega)
  · exact .nil
theorem depK_all {nb : Nat} {l : List SpurD} (h : MadeS nb l) : ∀ k, k ≤ l.length → (depK l k).Nodup ∧ (∀ x ∈ depK l k, x < nb + slotsK l k) ∧ ((depK l k).length : Int) = ((l.take k).map (fun x => if x.depot then x.slots else 0)).sum
  | 0, _ => by simp [depK]
  | k + 1, hk => by
    obtain ⟨i1, i2, i3⟩ := depK_all h k (by omega)
    have hlt : k < l.length := by omega
    have hs := (h.ok _ (List.getElem_mem hlt)).slots
    have hb := h.bases k hlt
    rw [depK_succ hlt, slotsK_succ hlt]
    refine ⟨List.nodup_append.2 ⟨i1, cellsS_nodup _, fun x hx y hy e => ?_⟩, fun x hx => ?_, ?_⟩
    · have := i2 x hx
      have := (cellsS_mem.1 hy).2.1
      omega
    · rcases List.mem_append.1 hx with hx | hx
      · have := i2 x hx; omega
      · have := (cellsS_mem.1 hx).2.2; omega
    · rw [List.length_append, List.take_succ_eq_append_getElem hlt, List.map_append, List.sum_append]
      have := cellsS_length (s := l[k]) (by omega)
      simp only [List.map_cons, List.map_nil, List.sum_cons, List.sum_nil, Int.add_zero]
      omega
theorem openS_all (n : Nat) (x : SpurD) : openS (opens n) x = true := by
  have h : ∀ v, atB (opens n) v = false := fun v => by
    unfold atB opens
    rw [List.getD_eq_getElem?_getD, List.getElem?_replicate]
    split <;> rfl
  unfold openS
  simp [h]
theorem sub_len : ∀ (a b : List Int), a.Nodup → (∀ x ∈ a, x ∈ b) → a.length ≤ b.length
  | [], b, _, _ => by simp
  | x :: a, b, hn, hs => by
    have hn' := List.nodup_cons.1 hn
    have hx := hs x (by simp)
    have := sub_len a (b.erase x) hn'.2 (fun y hy => by
      have hne : y ≠ x := fun e => hn'.1 (by rw [← e]; exact hy)
      exact (List.mem_erase_of_ne hne).2 (hs y (by simp [hy])))
    rw [List.length_erase_of_mem hx] at this
    have hp : 0 < b.length := List.length_pos_of_mem hx
    simp only [List.length_cons]
    omega
/-- A slot is free. -/
theorem free_some {N : NetD} (hs : MadeS N.blocks.length N.spurs) {rb : List Int} (h : (rb.length : Int) < slotsN N) : 0 < (freeK N.spurs rb N.spurs.length).length := by
  refine Nat.pos_of_ne_zero fun h0 => ?_
  obtain ⟨d1, d2, d3⟩ := depK_all hs N.spurs.length (Nat.le_refl _)
  have e : freeK N.spurs rb N.spurs.length = [] := List.eq_nil_of_length_eq_zero h0
  have hsub : ∀ x ∈ depK N.spurs N.spurs.length, x ∈ rb := fun x hx => Classical.byContradiction fun hn => by
    have := freeK_mem.2 ⟨depK_mem.1 hx, hn⟩
    rw [e] at this
    simp at this
  have hle := sub_len _ _ d1 hsub
  have hsl : slotsN N = ((N.spurs.take N.spurs.length).map (fun x => if x.depot then x.slots else 0)).sum := by
    unfold slotsN openSum
    congr 1
    refine List.map_congr_left fun x _ => ?_
    rw [openS_all, Bool.and_true]
  omega
end Go.Proofs.Ytmdnkpiihhaoeaa
namespace Go.Proofs.Ytmdnkpiihhaoeaa
open Go Go.RowKit Fl

theorem own_to {w w' : World} {base n : Nat} {e : TypeId} {v : Value} {xs : List Value} (h : w.ownsRow base e 1 v n xs) (hs : ∀ k, v.ownBlock = some k → k < w.heap.size → w'.heap[k]? = w.heap[k]?) : w'.ownsRow base e 1 v n xs := by
  obtain ⟨h1, hr⟩ := h
  refine ⟨h1, ?_⟩
  rcases hr with hr | ⟨g, cap, cur, hv, hgb, hh, hrest⟩
  · exact .inl hr
  · exact .inr ⟨g, cap, cur, hv, hgb, (hs g (by rw [hv]; rfl) (block_lt hh)).trans hh, hrest⟩
theorem own_type {w : World} {base n k : Nat} {e : TypeId} {v : Value} {xs : List Value} (h : w.ownsRow base e 1 v n xs) (hk : v.ownBlock = some k) : ∃ cs, w.heap[k]? = some (.cells cs e (0, 0)) := by
  obtain ⟨_, hr⟩ := h
  rcases hr with ⟨rfl, _⟩ | ⟨g, cap, cur, rfl, _, hh, _⟩
  · simp [Value.ownBlock] at hk
  · simp [Value.ownBlock] at hk
    subst hk
    exact ⟨cur, hh⟩
/-- A new row is put into the place of another one. -/
theorem RowsOwn.place {w w' : World} {base q n cap i : Nat} {g : GraphD} {u : Value} {r : List Int} (h : RowsOwn w base (.slice (some ⟨q, 0, none⟩) n cap) g) (hn : n = g.length) (hw : ∀ k, k < w.heap.size → w'.heap[k]? = (w.setCell ⟨q, i, none⟩ u).heap[k]?) (hu : w'.ownsRow base 3 1 u r.length (r.map Iv)) : RowsOwn w' base (.slice (some ⟨q, 0, none⟩) n cap) (g.set i r) := by
  subst hn
  obtain ⟨vs, h1, h2, h3⟩ := h
  obtain ⟨cs, hq⟩ := own_type h2 (k := q) rfl
  have h4 := own_put (i := i) (v := u) h2
  have hqs : (w.setCell ⟨q, i, none⟩ u).heap.size = w.heap.size := by simp [World.setCell]
  refine ⟨vs.set i u, by simpa using h1, ?_, fun j u' r' hj hr' => ?_⟩
  · rw [List.length_set]
    exact own_to h4 fun k _ hk => hw k (by omega)
  · rw [List.getElem?_set] at hj hr'
    by_cases e : i = j
    · subst e
      rw [if_pos rfl] at hj hr'
      split at hj
      · split at hr'
        · injection hj with hj
          injection hr' with hr'
          subst hj hr'
          exact hu
        · cases hr'
      · cases hj
    · rw [if_neg e] at hj hr'
      have h5 := h3 j u' r' hj hr'
      refine own_to h5 fun k hk hlt => ?_
      rw [hw k hlt, Below.heap_setCell _ _ _ _ (fun e2 => ?_)]
      obtain ⟨cs2, h6⟩ := own_type h5 hk
      simp only at e2
      rw [e2, hq] at h6
      injection h6 with h6
      injection h6 with _ h7
      exact absurd h7 (by decide)
end Go.Proofs.Ytmdnkpiihhaoeaa
namespace Go.Proofs.Ytmdnkpiihhaoeaa
open Go Go.RowKit Fl

/-- But for blocks gt and q, the old blocks are as they were. -/
structure Fro (gt q : Nat) (w w' : World) : Prop where
  os : w'.os = w.os
  tape : w'.tape = w.tape
  output : w'.output = w.output
  size : w.heap.size ≤ w'.heap.size
  block : ∀ k, k < w.heap.size → k ≠ gt → k ≠ q → w'.heap[k]? = w.heap[k]?
theorem Fro.refl (gt q : Nat) (w : World) : Fro gt q w w := ⟨rfl, rfl, rfl, Nat.le_refl _, fun _ _ _ _ => rfl⟩
theorem Fro.trans {gt q : Nat} {a b c : World} (h : Fro gt q a b) (k : Fro gt q b c) : Fro gt q a c :=
  ⟨k.os.trans h.os, k.tape.trans h.tape, k.output.trans h.output, Nat.le_trans h.size k.size, fun i hi hg hq => (k.block i (Nat.lt_of_lt_of_le hi h.size) hg hq).trans (h.block i hi hg hq)⟩
theorem Fro.of_below {gt q : Nat} {a b : World} (h : Below a.heap.size a b) : Fro gt q a b := ⟨h.os, h.tape, h.output, h.size, fun k hk _ _ => h.block k hk⟩
theorem Fro.of_grown {gt q : Nat} {a b : World} (hg : a.grownBy b (some gt)) : Fro gt q a b :=
  ⟨hg.os, hg.tape, hg.output, hg.size, fun k hk hne _ => hg.block k hk (fun e => by injection e with e; exact hne e)⟩
theorem Fro.put {gt q : Nat} (a : World) (k : Nat) (v : Value) : Fro gt q a (a.setCell ⟨q, k, none⟩ v) :=
  ⟨rfl, rfl, rfl, by simp [World.setCell], fun i _ _ hq => Below.heap_setCell _ _ _ _ hq⟩
theorem Fro.cell {gt q : Nat} {a b : World} (h : Fro gt q a b) {n i : Nat} {u : Value} (hc : a.cell? ⟨n, i, none⟩ = some u) (h1 : n ≠ gt) (h2 : n ≠ q) : b.cell? ⟨n, i, none⟩ = some u := by
  have := World.cell?_of_block (w := a) (a := ⟨n, i, none⟩) (h.block n (World.block_lt_of_cell? _ _ hc) h1 h2)
  rw [this]; exact hc
theorem ring_fit {b : Nat} {g : GraphD} (h : GrOk b g) (ho : ∀ r ∈ g, r.length ≤ 4) {i : Nat} (hi : i < b) (hb : 1 < b) : GrOk b (g.set i [((i : Int) + 1) % (b : Int)]) ∧ ∀ r ∈ g.set i [((i : Int) + 1) % (b : Int)], r.length ≤ 4 := by
  have hz : ((i : Int) + 1) % (b : Int) = if i + 1 < b then (i : Int) + 1 else 0 := by
    split
    · exact Int.emod_eq_of_lt (by omega) (by omega)
    · rw [show (i : Int) + 1 = b by omega, Int.emod_self]
  rw [hz]
  refine ⟨h.row (by simp) (fun x hx => ?_), outs_set ho (by simp)⟩
  simp only [List.mem_singleton] at hx
  subst hx
  split <;> omega
theorem alloc_cells {w : World} {n i : Nat} {u : Value} (h : w.cell? ⟨n, i, none⟩ = some u) (o : Obj) : (w.alloc o).cell? ⟨n, i, none⟩ = some u := by
  have := World.cell?_of_block (w := w) (a := ⟨n, i, none⟩) (Below.heap_alloc w o n (World.block_lt_of_cell? _ _ h))
  rw [this]; exact h
theorem frozen_keep {w w' : World} {q i : Nat} (h : w'.heap[q]? = w.heap[q]?) : w'.frozen? ⟨q, i, none⟩ = w.frozen? ⟨q, i, none⟩ := by
  simp [World.frozen?, h]
/-- What stands behind a new row of one, put into its place. -/
theorem ring_put {w : World} {B gt T base q cap b i : Nat} {g : GraphD} {z : Int} (hO : RowsOwn w base (.slice (some ⟨q, 0, none⟩) b cap) g) (hg : g.length = b) (ht : TapeOk w B gt T) (hgt : gt ≠ q) (hB : B ≤ q) (hbs : base ≤ w.heap.size) :
    RowsOwn (((w.setCell ⟨q, i, none⟩ (.slice (some ⟨w.heap.size, 0, none⟩) 1 1)).alloc (.cells #[.int .i64 z] 3)).drew) base (.slice (some ⟨q, 0, none⟩) b cap) (g.set i [z]) ∧
    TapeOk (((w.setCell ⟨q, i, none⟩ (.slice (some ⟨w.heap.size, 0, none⟩) 1 1)).alloc (.cells #[.int .i64 z] 3)).drew) B gt T ∧
    Fro gt q w (((w.setCell ⟨q, i, none⟩ (.slice (some ⟨w.heap.size, 0, none⟩) 1 1)).alloc (.cells #[.int .i64 z] 3)).drew) := by
  have hs : (w.setCell ⟨q, i, none⟩ (.slice (some ⟨w.heap.size, 0, none⟩) 1 1)).heap.size = w.heap.size := by simp [World.setCell]
  have hb : Below (w.setCell ⟨q, i, none⟩ (.slice (some ⟨w.heap.size, 0, none⟩) 1 1)).heap.size (w.setCell ⟨q, i, none⟩ (.slice (some ⟨w.heap.size, 0, none⟩) 1 1)) (((w.setCell ⟨q, i, none⟩ (.slice (some ⟨w.heap.size, 0, none⟩) 1 1)).alloc (.cells #[.int .i64 z] 3)).drew) := ((Below.refl _ _).alloc (Nat.le_refl _) _).drew
  refine ⟨hO.place hg.symm (fun k hk => hb.block k (by omega)) ?_, ?_, (Fro.put _ _ _).trans (Fro.of_below hb)⟩
  · refine ⟨rfl, .inr ⟨w.heap.size, 1, #[Iv z], rfl, hbs, ?_, by simp, by unfold maxLen; simp, rfl, rfl⟩⟩
    have := heap_alloc_new (w.setCell ⟨q, i, none⟩ (.slice (some ⟨w.heap.size, 0, none⟩) 1 1)) (.cells #[Iv z] 3)
    rw [hs] at this
    exact this
  · exact (ht.grown (w' := w.setCell ⟨q, i, none⟩ (.slice (some ⟨w.heap.size, 0, none⟩) 1 1)) (row := some q) ⟨rfl, rfl, rfl, by simp [World.setCell], fun k _ hne => Below.heap_setCell w ⟨q, i, none⟩ _ k (fun e => hne (by rw [e]))⟩ (fun e => by injection e with e; exact hgt e.symm) (fun k hk => by injection hk with hk; omega)).keep hb
/-- What stands behind a row that a call has made, put into its place. -/
theorem ring_ins {w w' : World} {B gt T base q cap b i : Nat} {g : GraphD} {u : Value} {r : List Int} (hO : RowsOwn w base (.slice (some ⟨q, 0, none⟩) b cap) g) (hg : g.length = b) (ht : TapeOk w B gt T) (hgt : gt ≠ q) (hB : B ≤ q) (hbs : base ≤ w.heap.size) (hq : q < w.heap.size) (hb : Below w.heap.size w w') (hu : w'.ownsRow w.heap.size 3 1 u r.length (r.map Iv)) :
    RowsOwn (w'.setCell ⟨q, i, none⟩ u) base (.slice (some ⟨q, 0, none⟩) b cap) (g.set i r) ∧ TapeOk (w'.setCell ⟨q, i, none⟩ u) B gt T ∧ Fro gt q w (w'.setCell ⟨q, i, none⟩ u) := by
  refine ⟨(hO.keep hb).place hg.symm (fun k _ => rfl) ?_, ?_, (Fro.of_below hb).trans (Fro.put _ _ _)⟩
  · refine ownsRow_base (own_to hu fun k hk _ => Below.heap_setCell _ _ _ _ (fun e => ?_)) hbs
    have h1 := own_base hu k hk
    simp only at e
    omega
  · exact (ht.keep hb).grown (w' := w'.setCell ⟨q, i, none⟩ u) (row := some q) ⟨rfl, rfl, rfl, by simp [World.setCell], fun k _ hne => Below.heap_setCell w' ⟨q, i, none⟩ _ k (fun e => hne (by rw [e]))⟩ (fun e => by injection e with e; exact hgt e.symm) (fun k hk => by injection hk with hk; omega)
set_option maxRecDepth 100000 in
set_option maxHeartbeats 8000000 in
theorem ringBig_c (B gt T nb base q capn b cb : Nat) (Ab : Option Addr) (g : GraphD) (w : World) (ht : TapeOk w B gt T) (hT : T ≤ 1000000) (h0 : w.cell? ⟨nb, 0, none⟩ = some (.slice Ab b cb)) (h1 : w.cell? ⟨nb, 1, none⟩ = some (.slice (some ⟨q, 0, none⟩) b capn)) (hr : RowsOwn w base (.slice (some ⟨q, 0, none⟩) b capn) g) (hg : GrOk b g) (ho : ∀ r ∈ g, r.length ≤ 4) (hb1 : 1 < b) (hb8 : b ≤ 8) (hne : gt ≠ nb) (hgb : gt < base) (hnb : nb < base) (hB : B ≤ base) :
    Calls Try.prog 44 #[.pointer (some ⟨gt, 0, none⟩), .pointer (some ⟨nb, 0, none⟩)] w fun e w' => e = .returned (.tuple #[]) ∧ ∃ g', GrOk b g' ∧ (∀ r ∈ g', r.length ≤ 4) ∧ RowsOwn w' base (.slice (some ⟨q, 0, none⟩) b capn) g' ∧ TapeOk w' B gt (T + 20) ∧ Fro gt q w w' := by
  have hqb : base ≤ q ∧ q < w.heap.size := by
    obtain ⟨vs, a1, a2, a3⟩ := hr
    rw [hg.len] at a2
    exact ⟨own_base a2 q rfl, own_blk a2⟩
  have HT := Lib.hid ht
  have HO := Lib.hid hr
  have HGr := Lib.hid hg
  have HOut := Lib.hid ho
  have H0 := Lib.hid h0
  have H1 := Lib.hid h1
  have hFr : Fro gt q w w := Fro.refl _ _ _
  have HF := Lib.hid hFr
  clear ht hr hg ho h0 h1 hFr
  have e0 := H0.out
  go_enter Try.func44, Try.ntmps44
  go_wp2
  go_loopw [5] (fun iv wr => ∃ (i : Nat) (g : GraphD), iv = .int .i64 i ∧ i ≤ b ∧ Hid (GrOk b g) ∧ Hid (∀ r ∈ g, r.length ≤ 4) ∧ Hid (RowsOwn wr base (.slice (some ⟨q, 0, none⟩) b capn) g) ∧ Hid (TapeOk wr B gt T) ∧ Hid (Fro gt q w wr)) (fun iv _ => b - (intOf iv).toNat)
  case atStart => exact ⟨0, g, rfl, Nat.zero_le _, HGr, HOut, HO, HT, HF⟩
  case round =>
    clear HGr HOut HO HT HF e0
    clear g
    obtain ⟨i, g, rfl, hi, HGr, HOut, HO, HT, HF⟩ := hrel
    rcases Nat.lt_or_ge i b with hib | hib
    · have h1b := hb1
      have e1 := HF.out.cell H1.out (fun e => hne e.symm) (by omega)
      have hgl : g.length = b := HGr.out.len
      obtain ⟨A1, c1, f1, f2, _⟩ := HO.out.cell (k := i) (by omega)
      have hq1 : q < wr.heap.size := World.block_lt_of_cell? _ _ f1
      have e1a := fun ob => alloc_cells e1 ob
      have f1a := fun ob => alloc_cells f1 ob
      have f2a : ∀ ob, (wr.alloc ob).frozen? ⟨q, i, none⟩ = false := fun ob => by
        rw [World.frozen?_alloc_old wr ob ⟨q, i, none⟩ (by simp; omega)]
        exact f2
      have HFit := Lib.hid (ring_fit HGr.out HOut.out hib h1b)
      clear HGr HOut
      obtain ⟨HP1, HP2, HP3⟩ := ring_put (i := i) (z := ((i : Int) + 1) % (b : Int)) HO.out hgl HT.out (by omega) (by omega) (by omega)
      have HN1 := Lib.hid HP1
      have HN2 := Lib.hid HP2
      have HN3 := Lib.hid (HF.out.trans HP3)
      clear HO HT HF HP1 HP2 HP3
      go_wp2
      go_region
      all_goals (try go_wp2)
      go_roundw
      case rel => exact ⟨i + 1, _, by go_num, by omega, Lib.hid HFit.out.1, Lib.hid HFit.out.2, HN1, HN2, HN3⟩
      case measure => simp [intOf]; omega
    · have hib' : ¬ i < b := by omega
      clear hi
      have HFe := Lib.hid (fun (W : World) (h : Fro gt q w W) => h.cell H1.out (fun e => hne e.symm) (by omega))
      have hsz1 := HF.out.size
      · skip
        go_wp2_with fail
        refine (next_c B gt T 4 wr HT.out (by omega) (by omega) (by omega)).mono ?_
        rintro e w3 ⟨k0, hk0, rfl, ht3, hg3⟩
        have hqw := hqb.2
        have HO3 := Lib.hid (HO.out.but hg3 (by omega))
        have HT3 := Lib.hid (ht3.more (T' := T + 1) (by omega))
        have HF3 := Lib.hid (HF.out.trans (Fro.of_grown hg3))
        clear HT HO HF ht3 hg3
        go_wp2
        go_loopw [6] (fun kv wr => ∃ (k m : Nat) (g : GraphD), kv = .int .i64 k ∧ k + m = k0 ∧ Hid (GrOk b g) ∧ Hid (∀ r ∈ g, r.length ≤ 4) ∧ Hid (RowsOwn wr base (.slice (some ⟨q, 0, none⟩) b capn) g) ∧ Hid (TapeOk wr B gt (T + 1 + 3 * m)) ∧ Hid (Fro gt q w wr)) (fun kv _ => (intOf kv).toNat)
        case atStart => exact ⟨k0, 0, g, rfl, by omega, HGr, HOut, HO3, HT3, HF3⟩
        case round =>
          clear HGr HOut HO3 HT3 HF3 hsz1
          clear g
          obtain ⟨k, m, g, rfl, hkm, HGr, HOut, HO, HT, HF⟩ := hrel
          by_cases hc : 0 < k ∧ 2 < b
          · obtain ⟨hk, h2b⟩ := hc
            go_wp2_with fail
            refine (next_c B gt _ b wr HT.out (by omega) (by omega) (by omega)).mono ?_
            rintro e w4 ⟨i, hi, rfl, ht4, hg4⟩
            have HO4 := Lib.hid (HO.out.but hg4 (by omega))
            have HF4 := Lib.hid (HF.out.trans (Fro.of_grown hg4))
            have HT4 := Lib.hid ht4
            clear HT HO HF ht4 hg4
            go_wp2_with fail
            refine (next_c B gt _ b w4 HT4.out (by omega) (by omega) (by omega)).mono ?_
            rintro e w5 ⟨x, hx, rfl, ht5, hg5⟩
            have HO5 := Lib.hid (HO4.out.but hg5 (by omega))
            have HF5 := Lib.hid (HF4.out.trans (Fro.of_grown hg5))
            have HT5 := Lib.hid ht5
            clear HT4 HO4 HF4 ht5 hg5
            go_wp2_with fail
            refine (next_c B gt _ 3 w5 HT5.out (by omega) (by omega) (by omega)).mono ?_
            rintro e w6 ⟨y, hy, rfl, ht6, hg6⟩
            have HO6 := Lib.hid (HO5.out.but hg6 (by omega))
            have HF6 := Lib.hid (HF5.out.trans (Fro.of_grown hg6))
            have HT6 : Hid (TapeOk w6 B gt (T + 1 + 3 * (m + 1))) := Lib.hid (ht6.more (by omega))
            clear HT5 HO5 HF5 ht6 hg6
            have hgl : g.length = b := HGr.out.len
            have hib : i < g.length := by omega
            have e1 := HFe.out w6 HF6.out
            obtain ⟨A1, c1, f1, f2, h1⟩ := HO6.out.cell hib
            have hr4 := HOut.out _ (List.getElem_mem hib)
            obtain ⟨jn, hjn, hjb, hji⟩ : ∃ jn : Nat, ((i : Int) + 2) % (b : Int) = (jn : Int) ∧ jn < b ∧ i ≠ jn := by
              refine ⟨(i + 2) % b, rfl, Nat.mod_lt _ (by omega), ?_⟩
              rcases Nat.lt_or_ge (i + 2) b with h | h
              · rw [Nat.mod_eq_of_lt h]; omega
              · rw [Nat.mod_eq_sub_mod h, Nat.mod_eq_of_lt (by omega)]; omega
            have HPut := Lib.hid (fun (z : Nat) (hz : z < b) (hzi : i ≠ z) (hn : (z : Int) ∉ g[i]) => HGr.out.put (v := i) (x := (z : Int)) hib (by omega) hn)
            have hq6 : q < w6.heap.size := World.block_lt_of_cell? _ _ f1
            rcases Nat.eq_zero_or_pos y with hy0 | hy0
            · clear hjn hjb hji jn
              by_cases hij : i = x
              · have hne' : ((i : Int) != (x : Int)) = false := by simp [hij]
                clear h1 HPut
                go_wp2
                go_roundw
                case rel => exact ⟨k - 1, m + 1, g, by go_num, by omega, HGr, HOut, HO6, HT6, HF6⟩
                case measure => simp [intOf]; omega
              · have hne' : ((i : Int) != (x : Int)) = true := by rw [bne_iff_ne]; omega
                have CH := Lib.hid (has_c A1 c1 g[i] x w6 h1 (by omega))
                have CI := Lib.hid (fun W (hW : Below w6.heap.size w6 W) => insert_c A1 c1 g[i] x W (h1.keep hW) (by omega))
                by_cases hin : (x : Int) ∈ g[i]
                · rw [decide_eq_true hin] at CH
                  clear h1 hin HPut CI
                  generalize g[i] = r at *
                  go_wp2_with fail
                  refine CH.out.mono ?_
                  rintro e w7 ⟨rfl, rfl⟩
                  go_wp2
                  go_roundw
                  case rel => exact ⟨k - 1, m + 1, g, by go_num, by omega, HGr, HOut, HO6, HT6, HF6⟩
                  case measure => simp [intOf]; omega
                · rw [decide_eq_false hin] at CH
                  by_cases hlen : g[i].length < 4
                  · have HP := Lib.hid (HPut.out x (by omega) hij hin)
                    have HOut2 : Hid (∀ r ∈ g.set i (insL g[i] (x : Int)), r.length ≤ 4) := Lib.hid (outs_set HOut.out (by rw [insL_length]; omega))
                    clear h1 hin HPut
                    generalize insL g[i] (x : Int) = r2 at *
                    generalize g[i] = r at *
                    go_wp2_with fail
                    refine CH.out.mono ?_
                    rintro e w7 ⟨rfl, rfl⟩
                    go_wp2_with fail
                    go_region_law (first | (go_simp; go_at_call 63; (refine (CI.out _ (by first | exact Below.refl _ _ | exact (Below.refl _ _).drew)).mono ?_; rintro e w8 ⟨u, rfl, own8, hb8⟩; obtain ⟨Au, cu, rfl, _⟩ := own_is own8; have HO8 := Lib.hid own8; have HB8 := Lib.hid hb8; have z1 := (hb8.cell (p := ⟨nb, 1, none⟩) (World.block_lt_of_cell? _ _ e1)).trans e1; have z2 := (hb8.cell (p := ⟨q, i, none⟩) hq6).trans f1; have z3 := (frozen_keep (i := i) (hb8.block q hq6)).trans f2; clear own8 hb8)))
                    all_goals
                      obtain ⟨NP1, NP2, NP3⟩ := ring_ins (i := i) (u := .slice Au r2.length cu) HO6.out hgl HT6.out (by omega) (by omega) (by omega) hq6 (((Below.refl w6.heap.size w6).drew).trans HB8.out) HO8.out
                      have M1 := Lib.hid NP1
                      have M2 := Lib.hid NP2
                      have M3 := Lib.hid (HF6.out.trans NP3)
                      clear NP1 NP2 NP3 HO8 HB8 z1 z2 z3
                      go_wp2
                      go_roundw
                      case rel => exact ⟨k - 1, m + 1, _, by go_num, by omega, HP, HOut2, M1, M2, M3⟩
                      case measure => simp [intOf]; omega
                  · clear h1 hin HPut CI
                    generalize g[i] = r at *
                    go_wp2_with fail
                    refine CH.out.mono ?_
                    rintro e w7 ⟨rfl, rfl⟩
                    go_wp2
                    go_roundw
                    case rel => exact ⟨k - 1, m + 1, g, by go_num, by omega, HGr, HOut, HO6, HT6, HF6⟩
                    case measure => simp [intOf]; omega
            · by_cases hij : i = jn
              · exact absurd hij hji
              · have hne' : ((i : Int) != (jn : Int)) = true := by rw [bne_iff_ne]; omega
                have CH := Lib.hid (has_c A1 c1 g[i] jn w6 h1 (by omega))
                have CI := Lib.hid (fun W (hW : Below w6.heap.size w6 W) => insert_c A1 c1 g[i] jn W (h1.keep hW) (by omega))
                by_cases hin : (jn : Int) ∈ g[i]
                · rw [decide_eq_true hin] at CH
                  clear h1 hin HPut CI
                  generalize g[i] = r at *
                  go_wp2_with fail
                  refine CH.out.mono ?_
                  rintro e w7 ⟨rfl, rfl⟩
                  go_wp2
                  go_roundw
                  case rel => exact ⟨k - 1, m + 1, g, by go_num, by omega, HGr, HOut, HO6, HT6, HF6⟩
                  case measure => simp [intOf]; omega
                · rw [decide_eq_false hin] at CH
                  by_cases hlen : g[i].length < 4
                  · have HP := Lib.hid (HPut.out jn (by omega) hij hin)
                    have HOut2 : Hid (∀ r ∈ g.set i (insL g[i] (jn : Int)), r.length ≤ 4) := Lib.hid (outs_set HOut.out (by rw [insL_length]; omega))
                    clear h1 hin HPut
                    generalize insL g[i] (jn : Int) = r2 at *
                    generalize g[i] = r at *
                    go_wp2_with fail
                    refine CH.out.mono ?_
                    rintro e w7 ⟨rfl, rfl⟩
                    go_wp2_with fail
                    go_region_law (first | (go_simp; go_at_call 63; (refine (CI.out _ (by first | exact Below.refl _ _ | exact (Below.refl _ _).drew)).mono ?_; rintro e w8 ⟨u, rfl, own8, hb8⟩; obtain ⟨Au, cu, rfl, _⟩ := own_is own8; have HO8 := Lib.hid own8; have HB8 := Lib.hid hb8; have z1 := (hb8.cell (p := ⟨nb, 1, none⟩) (World.block_lt_of_cell? _ _ e1)).trans e1; have z2 := (hb8.cell (p := ⟨q, i, none⟩) hq6).trans f1; have z3 := (frozen_keep (i := i) (hb8.block q hq6)).trans f2; clear own8 hb8)))
                    all_goals
                      obtain ⟨NP1, NP2, NP3⟩ := ring_ins (i := i) (u := .slice Au r2.length cu) HO6.out hgl HT6.out (by omega) (by omega) (by omega) hq6 (((Below.refl w6.heap.size w6).drew).trans HB8.out) HO8.out
                      have M1 := Lib.hid NP1
                      have M2 := Lib.hid NP2
                      have M3 := Lib.hid (HF6.out.trans NP3)
                      clear NP1 NP2 NP3 HO8 HB8 z1 z2 z3
                      go_wp2
                      go_roundw
                      case rel => exact ⟨k - 1, m + 1, _, by go_num, by omega, HP, HOut2, M1, M2, M3⟩
                      case measure => simp [intOf]; omega
                  · clear h1 hin HPut CI
                    generalize g[i] = r at *
                    go_wp2_with fail
                    refine CH.out.mono ?_
                    rintro e w7 ⟨rfl, rfl⟩
                    go_wp2
                    go_roundw
                    case rel => exact ⟨k - 1, m + 1, g, by go_num, by omega, HGr, HOut, HO6, HT6, HF6⟩
                    case measure => simp [intOf]; omega
          · have hcond : (0 < k ∧ ¬ 2 < b) ∨ ¬ 0 < k := by omega
            clear hc
            rcases hcond with ⟨hc1, hc2⟩ | hc1
            all_goals
              go_wp2
              go_end0
              exact ⟨rfl, g, HGr.out, HOut.out, HO.out, HT.out.more (by omega), HF.out⟩
set_option maxRecDepth 100000 in
set_option maxHeartbeats 4000000 in
theorem ringOne_c (B gt T nb base q capn cb : Nat) (Ab : Option Addr) (g : GraphD) (w : World) (ht : TapeOk w B gt T) (hT : T ≤ 1000000) (h0 : w.cell? ⟨nb, 0, none⟩ = some (.slice Ab 1 cb)) (hr : RowsOwn w base (.slice (some ⟨q, 0, none⟩) 1 capn) g) (hg : GrOk 1 g) (ho : ∀ r ∈ g, r.length ≤ 4) (hgb : gt < base) :
    Calls Try.prog 44 #[.pointer (some ⟨gt, 0, none⟩), .pointer (some ⟨nb, 0, none⟩)] w fun e w' => e = .returned (.tuple #[]) ∧ ∃ g', GrOk 1 g' ∧ (∀ r ∈ g', r.length ≤ 4) ∧ RowsOwn w' base (.slice (some ⟨q, 0, none⟩) 1 capn) g' ∧ TapeOk w' B gt (T + 20) ∧ Fro gt q w w' := by
  have hqb : base ≤ q ∧ q < w.heap.size := by
    obtain ⟨vs, a1, a2, a3⟩ := hr
    rw [hg.len] at a2
    exact ⟨own_base a2 q rfl, own_blk a2⟩
  have HT := Lib.hid ht
  have HO := Lib.hid hr
  have HGr := Lib.hid hg
  have HOut := Lib.hid ho
  clear hr hg ho ht
  go_enter Try.func44, Try.ntmps44
  go_wp2
  refine wp_loop_rounds 1 ?_
  rw [rounds_succ]
  go_wp2_with fail
  refine (next_c B gt T 4 w HT.out (by omega) (by omega) (by omega)).mono ?_
  rintro e w3 ⟨k0, hk0, rfl, ht3, hg3⟩
  have HO3 := Lib.hid (HO.out.but hg3 (by omega))
  have HT3 := Lib.hid (ht3.more (T' := T + 20) (by omega))
  have HF3 := Lib.hid (Fro.of_grown (q := q) hg3)
  clear ht3 hg3 HT HO
  go_wp2
  refine wp_loop_rounds 1 ?_
  rw [rounds_succ]
  rcases Nat.eq_zero_or_pos k0 with hk | hk
  all_goals
    go_wp2
    go_end0
    exact ⟨rfl, g, HGr.out, HOut.out, HO3.out, HT3.out, HF3.out⟩
theorem ring_c (B gt T nb base q capn b cb : Nat) (Ab : Option Addr) (g : GraphD) (w : World) (ht : TapeOk w B gt T) (hT : T ≤ 1000000) (h0 : w.cell? ⟨nb, 0, none⟩ = some (.slice Ab b cb)) (h1 : w.cell? ⟨nb, 1, none⟩ = some (.slice (some ⟨q, 0, none⟩) b capn)) (hr : RowsOwn w base (.slice (some ⟨q, 0, none⟩) b capn) g) (hg : GrOk b g) (ho : ∀ r ∈ g, r.length ≤ 4) (hb1 : 1 ≤ b) (hb8 : b ≤ 8) (hne : gt ≠ nb) (hgb : gt < base) (hnb : nb < base) (hB : B ≤ base) :
    Calls Try.prog 44 #[.pointer (some ⟨gt, 0, none⟩), .pointer (some ⟨nb, 0, none⟩)] w fun e w' => e = .returned (.tuple #[]) ∧ ∃ g', GrOk b g' ∧ (∀ r ∈ g', r.length ≤ 4) ∧ RowsOwn w' base (.slice (some ⟨q, 0, none⟩) b capn) g' ∧ TapeOk w' B gt (T + 20) ∧ Fro gt q w w' := by
  rcases Nat.lt_or_ge 1 b with h | h
  · exact ringBig_c B gt T nb base q capn b cb Ab g w ht hT h0 h1 hr hg ho h hb8 hne hgb hnb hB
  · obtain rfl : b = 1 := by omega
    exact ringOne_c B gt T nb base q capn cb Ab g w ht hT h0 hr hg ho hgb
end Go.Proofs.Ytmdnkpiihhaoeaa

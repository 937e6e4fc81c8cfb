/- Joined texts. -/
import Derived.Test.YtfgpenekmokdiaaChecked
import Derived.Test.YtfgpenekmokdiaaMzAA
import Derived.WalkKit
import Derived.ProofKit
import Derived.BigQuiet
import Derived.Lib.Hide
import Derived.Deep.QuietTactic
import Derived.Test.YtfgpenekmokdiaaMzAD
import Derived.Test.YtfgpenekmokdiaaMzAB
namespace Go.Proofs.Ytfgpenekmokdiaa
open Go.RowKit

def CutPost (n : Int) (e : Ending) (w w' : World) : Prop := ∃ r : Nat, (r : Int) < n ∧ e = .returned (.int .i64 r) ∧ w = w'
theorem cut_c (v n : Int) (w : World) (h1 : 1 ≤ n) (hn : n ≤ 1000000) (hv1 : -9223372036854775808 ≤ v) (hv2 : v ≤ 9223372036854775807) : Calls Try.prog 33 #[.int .i64 v, .int .i64 n] w fun e w' => CutPost n e w w' := by
  by_cases h : n ≤ 1
  · go_enter Try.func33, Try.ntmps33
    go_wp2
    go_ret
    exact ⟨0, by omega, rfl, rfl⟩
  · have hlo : -n < v.tmod n := by have := Int.lt_tmod_of_pos v (show (0 : Int) < n by omega); omega
    have hhi : v.tmod n < n := Int.tmod_lt_of_pos v (by omega)
    by_cases h0 : 0 ≤ v
    · have e0 : v.tmod n = v % n := Int.tmod_eq_emod_of_nonneg h0
      rw [e0] at hlo hhi
      have hnn : 0 ≤ v % n := Int.emod_nonneg v (by omega)
      clear e0
      go_enter Try.func33, Try.ntmps33
      go_wp2
      go_ret
      exact ⟨(v % n).toNat, by omega, by rw [Int.toNat_of_nonneg hnn]; rfl, rfl⟩
    · have h0' : v < 0 := by omega
      clear h0
      by_cases hm : v.tmod n < 0
      · have hs1 : 0 ≤ v.tmod n + n := by omega
        go_enter Try.func33, Try.ntmps33
        go_wp2
        go_ret
        exact ⟨(v.tmod n + n).toNat, by omega, by rw [Int.toNat_of_nonneg hs1]; rfl, rfl⟩
      · have hs1 : 0 ≤ v.tmod n := by omega
        go_enter Try.func33, Try.ntmps33
        go_wp2
        go_ret
        exact ⟨(v.tmod n).toNat, by omega, by rw [Int.toNat_of_nonneg hs1]; rfl, rfl⟩

/-- Block g is a tape whose list lies below block B, and whose place is at most T. -/
def TapeOk (w : World) (B g T : Nat) : Prop := ∃ (A : Option Addr) (n c at_ : Nat) (zs : List Int),
  w.heap[g]? = some (.cells #[.slice A n c, .int .i64 at_] 27 (0, 0)) ∧ zs.length = n ∧ at_ ≤ T ∧ B ≤ g ∧ n ≤ maxLen ∧
  (0 < n → ∃ b o, A = some ⟨b, o, none⟩ ∧ b < B ∧ ∀ j (h : j < zs.length), w.cell? ⟨b, o + j, none⟩ = some (.int .i64 zs[j]) ∧ -9223372036854775808 ≤ zs[j] ∧ zs[j] ≤ 9223372036854775807)
theorem TapeOk.more {w : World} {B g T T' : Nat} (h : TapeOk w B g T) (hT : T ≤ T') : TapeOk w B g T' := by
  obtain ⟨A, n, c, at_, zs, h1, h2, h3, h4⟩ := h
  exact ⟨A, n, c, at_, zs, h1, h2, Nat.le_trans h3 hT, h4⟩
/-- A tape stays where nothing below the heap's end is written. -/
theorem TapeOk.keep {w w' : World} {B g T : Nat} (h : TapeOk w B g T) (hb : Below w.heap.size w w') : TapeOk w' B g T := by
  obtain ⟨A, n, c, at_, zs, h1, h2, h3, h4, h5, h6⟩ := h
  refine ⟨A, n, c, at_, zs, (hb.block g (block_lt h1)).trans h1, h2, h3, h4, h5, fun hn => ?_⟩
  obtain ⟨b, o, hA, hlt, hc⟩ := h6 hn
  exact ⟨b, o, hA, hlt, fun j hj => ⟨(hb.cell (p := ⟨b, o + j, none⟩) (by have := block_lt h1; show b < _; omega)).trans (hc j hj).1, (hc j hj).2⟩⟩
/-- .. and where a row of the call's own, of another type, may be written. -/
theorem TapeOk.grown {w w' : World} {B g T : Nat} {row : Option Nat} (h : TapeOk w B g T) (hg : w.grownBy w' row) (hr : row ≠ some g) (hB : ∀ k, row = some k → B ≤ k) : TapeOk w' B g T := by
  obtain ⟨A, n, c, at_, zs, h1, h2, h3, h4, h5, h6⟩ := h
  refine ⟨A, n, c, at_, zs, (hg.block g (block_lt h1) (fun e => hr e.symm)).trans h1, h2, h3, h4, h5, fun hn => ?_⟩
  obtain ⟨b, o, hA, hlt, hc⟩ := h6 hn
  refine ⟨b, o, hA, hlt, fun j hj => ⟨?_, (hc j hj).2⟩⟩
  have := World.cell?_of_block (w := w) (a := ⟨b, o + j, none⟩) (hg.block b (by have := block_lt h1; omega) (fun e => by have := hB b e.symm; omega))
  rw [this]; exact (hc j hj).1
def NextPost (B g T : Nat) (n : Int) (w : World) (e : Ending) (w' : World) : Prop := ∃ r : Nat, (r : Int) < n ∧ e = .returned (.int .i64 r) ∧ TapeOk w' B g (T + 1) ∧ w.grownBy w' (some g)
theorem tape_step {w : World} {B g T len c at_ nq : Nat} {A : Option Addr} {zs : List Int} (hh : w.heap[g]? = some (.cells #[.slice A len c, .int .i64 at_] 27 (0, 0))) (hlen : zs.length = len) (hat : at_ ≤ T) (hBg : B ≤ g) (hmax : len ≤ maxLen)
    (hcells : 0 < len → ∃ b o, A = some ⟨b, o, none⟩ ∧ b < B ∧ ∀ j (h : j < zs.length), w.cell? ⟨b, o + j, none⟩ = some (.int .i64 zs[j]) ∧ -9223372036854775808 ≤ zs[j] ∧ zs[j] ≤ 9223372036854775807) :
    TapeOk ((w.drewN nq).setCell ⟨g, 1, none⟩ (.int .i64 ((at_ : Int) + 1))) B g (T + 1) ∧ w.grownBy ((w.drewN nq).setCell ⟨g, 1, none⟩ (.int .i64 ((at_ : Int) + 1))) (some g) := by
  have hg : w.grownBy ((w.drewN nq).setCell ⟨g, 1, none⟩ (.int .i64 ((at_ : Int) + 1))) (some g) := by
    refine ⟨rfl, rfl, rfl, by simp [World.setCell, World.drewN], fun i hi hne => ?_⟩
    exact Below.heap_setCell (w.drewN nq) ⟨g, 1, none⟩ _ i (fun e => hne (by rw [e]))
  refine ⟨⟨A, len, c, at_ + 1, zs, ?_, hlen, by omega, hBg, hmax, fun hn => ?_⟩, hg⟩
  · simp [World.setCell, Array.getElem?_modify]
    exact ⟨_, hh, by simp⟩
  · obtain ⟨b, o, hA, hlt, hc⟩ := hcells hn
    refine ⟨b, o, hA, hlt, fun j hj => ⟨?_, (hc j hj).2⟩⟩
    have := World.cell?_of_block (w := w) (a := ⟨b, o + j, none⟩) (hg.block b (by have := block_lt hh; omega) (fun e => by injection e with e; omega))
    rw [this]; exact (hc j hj).1
set_option maxHeartbeats 1000000 in
theorem next_c (B g T : Nat) (n : Int) (w : World) (ht : TapeOk w B g T) (hT : T ≤ 1000000000) (h1 : 1 ≤ n) (hn : n ≤ 1000000) : Calls Try.prog 22 #[.pointer (some ⟨g, 0, none⟩), .int .i64 n] w (NextPost B g T n w) := by
  obtain ⟨A, len, c, at_, zs, hh, hlen, hat, hBg, hmax, hcells⟩ := ht
  unfold maxLen at hmax
  have hHH := Lib.hid hh
  have hlt := block_lt hh
  have c0 : w.cell? ⟨g, 0, none⟩ = some (.slice A len c) := by rw [cell_of_row w g 0 _ _ (0, 0) hh]; rfl
  have c1 : w.cell? ⟨g, 1, none⟩ = some (.int .i64 at_) := by rw [cell_of_row w g 1 _ _ (0, 0) hh]; rfl
  have hfz : w.frozen? ⟨g, 1, none⟩ = false := by simp [World.frozen?, hh]
  clear hh
  have HC := Lib.hid hcells
  by_cases hin : at_ < len
  · obtain ⟨b, o, rfl, _, hc⟩ := hcells (by omega)
    obtain ⟨e1, e2, e3⟩ := hc at_ (by omega)
    have HL := Lib.hid hlen
    clear hc hcells
    generalize zs[at_] = z at *
    clear hlen
    go_enter Try.func22, Try.ntmps22
    go_wp2
    go_quiet (fail)
    go_wp2
    go_quiet (fail)
    go_wp2_with fail
    refine (cut_c _ _ _ h1 hn e2 e3).mono ?_
    rintro e w1 ⟨r, hr, rfl, rfl⟩
    go_wp2_with fail
    go_ret
    have hts := fun q => tape_step (nq := q) hHH.out HL.out hat hBg hmax HC.out
    exact ⟨r, hr, rfl, (hts _).1, (hts _).2⟩
  · clear hcells
    go_enter Try.func22, Try.ntmps22
    go_wp2
    go_quiet (fail)
    go_wp2_with fail
    refine (cut_c _ _ _ h1 hn (by omega) (by omega)).mono ?_
    rintro e w1 ⟨r, hr, rfl, rfl⟩
    go_wp2_with fail
    go_ret
    obtain ⟨h2, h3⟩ := tape_step (nq := nq) hHH.out hlen hat hBg hmax HC.out
    exact ⟨r, hr, rfl, h2, h3⟩
end Go.Proofs.Ytfgpenekmokdiaa
namespace Go.Proofs.Ytfgpenekmokdiaa
open Go Go.RowKit Fl

theorem insL_sorted : ∀ {l : List Int} {x : Int}, l.Pairwise (· < ·) → x ∉ l → (insL l x).Pairwise (· < ·)
  | [], x, _, _ => by simp [insL]
  | y :: l, x, h, hx => by
    have h1 := List.pairwise_cons.1 h
    have hxy : x ≠ y := fun e => hx (by simp [e])
    have hxl : x ∉ l := fun e => hx (by simp [e])
    unfold insL
    split
    · refine .cons (fun z hz => ?_) h
      rcases List.mem_cons.1 hz with rfl | hz
      · assumption
      · have := h1.1 z hz; omega
    · refine .cons (fun z hz => ?_) (insL_sorted h1.2 hxl)
      rcases (insL_mem l x z).1 hz with rfl | hz
      · omega
      · exact h1.1 z hz
/-- Graphs as they are made: n vertices, rows ascending, to other vertices. -/
structure GrOk (n : Nat) (g : GraphD) : Prop where
  len : g.length = n
  sorted : ∀ r ∈ g, r.Pairwise (· < ·)
  range : ∀ (k : Nat) (hk : k < g.length), ∀ x ∈ g[k], 0 ≤ x ∧ x < n ∧ x ≠ k
theorem GrOk.valid {n : Nat} {g : GraphD} (h : GrOk n g) (hn : n ≤ 24) : validG g = true :=
  validG_mk (by rw [h.len]; exact hn) (fun k hk => h.sorted _ (List.getElem_mem hk)) (fun k hk x hx => by have := h.range k hk x hx; rw [h.len]; exact this)
theorem grOk_empty (n : Nat) : GrOk n (List.replicate n []) :=
  ⟨by simp, fun r hr => by rw [List.eq_of_mem_replicate hr]; exact .nil, fun k hk x hx => by simp at hx⟩
theorem GrOk.put {n : Nat} {g : GraphD} (h : GrOk n g) {v : Nat} {x : Int} (hv : v < g.length) (hx : 0 ≤ x ∧ x < n ∧ x ≠ v) (hn : x ∉ g[v]) : GrOk n (g.set v (insL g[v] x)) := by
  refine ⟨by simpa using h.len, fun r hr => ?_, fun k hk y hy => ?_⟩
  · rcases List.mem_or_eq_of_mem_set hr with hr | rfl
    · exact h.sorted r hr
    · exact insL_sorted (h.sorted _ (List.getElem_mem hv)) hn
  · rw [List.getElem_set] at hy
    split at hy
    · rename_i e
      subst e
      rcases (insL_mem _ _ _).1 hy with rfl | hy
      · exact hx
      · exact h.range v hv y hy
    · exact h.range k (by simpa using hk) y hy
/-- Rows of the call's own: the slice v holds slices that hold the rows of g, all of them in memory from block base on. -/
def RowsOwn (w : World) (base : Nat) (v : Value) (g : GraphD) : Prop :=
  ∃ vs : List Value, vs.length = g.length ∧ w.ownsRow base 23 1 v g.length vs ∧ ∀ (k : Nat) (u : Value) (r : List Int), vs[k]? = some u → g[k]? = some r → w.ownsRow base 3 1 u r.length (r.map Iv)
theorem RowsOwn.keep {w w' : World} {base : Nat} {v : Value} {g : GraphD} (h : RowsOwn w base v g) (hb : Below w.heap.size w w') : RowsOwn w' base v g := by
  obtain ⟨vs, h1, h2, h3⟩ := h
  exact ⟨vs, h1, ownsRow_below h2 hb, fun k u r hk hr => ownsRow_below (h3 k u r hk hr) hb⟩
theorem RowsOwn.but {w w' : World} {base q : Nat} {v : Value} {g : GraphD} (h : RowsOwn w base v g) (hw : w.grownBy w' (some q)) (hq : q < base) : RowsOwn w' base v g := by
  have key : ∀ {e : TypeId} {n : Nat} {u : Value} {xs : List Value}, w.ownsRow base e 1 u n xs → w'.ownsRow base e 1 u n xs := fun h => by
    obtain ⟨h1, hr⟩ := h
    refine ⟨h1, ?_⟩
    rcases hr with hr | ⟨b, cap, cur, hv, hgb, hh, hrest⟩
    · exact .inl hr
    · exact .inr ⟨b, cap, cur, hv, hgb, (hw.block b (block_lt hh) (fun e => by injection e with e; omega)).trans hh, hrest⟩
  obtain ⟨vs, h1, h2, h3⟩ := h
  exact ⟨vs, h1, key h2, fun k u r hk hr => key (h3 k u r hk hr)⟩
theorem RowsOwn.at_ {w : World} {base : Nat} {v : Value} {g : GraphD} (h : RowsOwn w base v g) : ∃ A c, v = .slice A g.length c ∧ RowsAt w A g := by
  obtain ⟨vs, h1, h2, h3⟩ := h
  obtain ⟨A, c, rfl, hh⟩ := own_is h2
  refine ⟨A, c, rfl, ?_⟩
  rcases Nat.eq_zero_or_pos g.length with h0 | h0
  · exact .inl (List.eq_nil_of_length_eq_zero h0)
  · obtain ⟨b, o, rfl, hlt, hc⟩ := hh.at_ (by omega)
    refine .inr ⟨b, o, rfl, hlt, fun k hk => ?_⟩
    have e1 := List.getElem?_eq_getElem (l := vs) (i := k) (by omega)
    have e2 := List.getElem?_eq_getElem hk
    have h4 := h3 k _ _ e1 e2
    obtain ⟨A1, c1, hv, h5⟩ := own_is h4
    refine ⟨A1, c1, ?_, h5⟩
    rw [hc k (by omega), hv]
/-- A row is put into the place of another one. -/
theorem RowsOwn.put {w w' : World} {base q cap k : Nat} {g : GraphD} {u : Value} {r : List Int} (h : RowsOwn w base (.slice (some ⟨q, 0, none⟩) g.length cap) g) (hr : w.ownsRow base 3 1 u r.length (r.map Iv)) (hw : w' = w.setCell ⟨q, k, none⟩ u) : RowsOwn w' base (.slice (some ⟨q, 0, none⟩) g.length cap) (g.set k r) := by
  subst hw
  obtain ⟨vs, h1, h2, h3⟩ := h
  have hq : ∃ cs, w.heap[q]? = some (.cells cs 23 (0, 0)) := by
    obtain ⟨_, h⟩ := h2
    rcases h with ⟨hv, _⟩ | ⟨g', cap', cur, hv, _, hh, _⟩
    · cases hv
    · injection hv with hA _ _
      injection hA with hA
      injection hA with hA
      subst hA
      exact ⟨cur, hh⟩
  obtain ⟨cs, hq⟩ := hq
  have key : ∀ {n : Nat} {u' : Value} {xs : List Value}, w.ownsRow base 3 1 u' n xs → (w.setCell ⟨q, k, none⟩ u).ownsRow base 3 1 u' n xs := fun h => by
    obtain ⟨h1, hr⟩ := h
    refine ⟨h1, ?_⟩
    rcases hr with hr | ⟨b, cap, cur, hv, hgb, hh, hrest⟩
    · exact .inl hr
    · refine .inr ⟨b, cap, cur, hv, hgb, (Below.heap_setCell _ _ _ _ (fun e => ?_)).trans hh, hrest⟩
      simp only at e
      subst e
      rw [hh] at hq
      injection hq with hq
      injection hq with _ h2
      exact absurd h2 (by decide)
  refine ⟨vs.set k u, by simpa using h1, by rw [List.length_set]; exact own_put h2, fun i u' r' hi hr' => ?_⟩
  rw [List.getElem?_set] at hi hr'
  by_cases e : k = i
  · subst e
    rw [if_pos rfl] at hi hr'
    split at hi
    · split at hr'
      · injection hi with hi
        injection hr' with hr'
        subst hi hr'
        exact key hr
      · cases hr'
    · cases hi
  · rw [if_neg e] at hi hr'
    exact key (h3 i u' r' hi hr')
theorem RowsOwn.cell {w : World} {base q n cap k : Nat} {g : GraphD} (h : RowsOwn w base (.slice (some ⟨q, 0, none⟩) n cap) g) (hk : k < g.length) : ∃ A1 c1, w.cell? ⟨q, k, none⟩ = some (.slice A1 g[k].length c1) ∧ w.frozen? ⟨q, k, none⟩ = false ∧ Holds w A1 (g[k].map Iv) := by
  obtain ⟨vs, h1, h2, h3⟩ := h
  have e1 := List.getElem?_eq_getElem (l := vs) (i := k) (by omega)
  obtain ⟨A1, c1, hv, h5⟩ := own_is (h3 k _ _ e1 (List.getElem?_eq_getElem hk))
  have hn : n = g.length := by
    obtain ⟨A, c, hv2, _⟩ := own_is h2
    injection hv2 with _ hn _
  subst hn
  obtain ⟨c2, c3⟩ := own_get h2 e1
  exact ⟨A1, c1, by rw [c2, hv], c3, h5⟩
/-- Below block U, but for block g, the world is as it was. -/
structure Still (g U : Nat) (w w' : World) : Prop where
  os : w'.os = w.os
  tape : w'.tape = w.tape
  output : w'.output = w.output
  size : w.heap.size ≤ w'.heap.size
  block : ∀ k, k < U → k ≠ g → w'.heap[k]? = w.heap[k]?
theorem Still.refl (g U : Nat) (w : World) : Still g U w w := ⟨rfl, rfl, rfl, Nat.le_refl _, fun _ _ _ => rfl⟩
theorem Still.trans {g U : Nat} {a b c : World} (h : Still g U a b) (k : Still g U b c) : Still g U a c :=
  ⟨k.os.trans h.os, k.tape.trans h.tape, k.output.trans h.output, Nat.le_trans h.size k.size, fun i hi hg => (k.block i hi hg).trans (h.block i hi hg)⟩
theorem Still.of_below {g U : Nat} {a b : World} (h : Below U a b) : Still g U a b := ⟨h.os, h.tape, h.output, h.size, fun k hk _ => h.block k hk⟩
theorem Still.of_grown {g U : Nat} {a b : World} (hg : a.grownBy b (some g)) (hU : U ≤ a.heap.size) : Still g U a b :=
  ⟨hg.os, hg.tape, hg.output, hg.size, fun k hk hne => hg.block k (by omega) (fun e => by injection e with e; omega)⟩
theorem Still.below {g U B : Nat} {a b : World} (h : Still g U a b) (hB : B ≤ U) (hg : B ≤ g) : Below B a b := ⟨h.os, h.tape, h.output, h.size, fun k hk => h.block k (by omega) (by omega)⟩
theorem Try.infoRowG : (Try.prog.info? 23).map (fun i => (i.zero, i.size, i.bytes)) = some (some (.slice none 0 0), 1, 24) := by kernel_rfl
theorem rowsOwn_new {w : World} {base q n : Nat} (h : w.ownsRow base 23 1 (.slice (some ⟨q, 0, none⟩) n n) n (List.replicate n (.slice none 0 0))) : RowsOwn w base (.slice (some ⟨q, 0, none⟩) n n) (List.replicate n []) := by
  refine ⟨List.replicate n (.slice none 0 0), by simp, by simpa using h, fun k u r hk hr => ?_⟩
  rw [List.getElem?_replicate] at hk hr
  by_cases hkn : k < n
  · rw [if_pos hkn] at hk hr
    injection hk with hk
    injection hr with hr
    subst hk hr
    exact World.ownsRow_nil _ _ _ _
  · rw [if_neg hkn] at hk
    cases hk
/-- What Graph returns. -/
def GraphPost (w : World) (B gt T most : Nat) (e : Ending) (w' : World) : Prop := ∃ (v : Value) (g : GraphD), e = .returned v ∧ g.length ≤ most ∧ GrOk g.length g ∧ RowsOwn w' w.heap.size v g ∧ TapeOk w' B gt (T + 1000) ∧ Still gt w.heap.size w w'
set_option maxRecDepth 100000 in
set_option maxHeartbeats 4000000 in
theorem graph_c (B gt T most : Nat) (w : World) (ht : TapeOk w B gt T) (hT : T ≤ 1000000) (hm : most ≤ 20) (hgt : gt < w.heap.size) :
    Calls Try.prog 11 #[.pointer (some ⟨gt, 0, none⟩), .int .i64 most] w (GraphPost w B gt T most) := by
  have HT := Lib.hid ht
  clear ht
  go_enter Try.func11, Try.ntmps11
  go_wp2_with fail
  refine (next_c B gt T _ w HT.out (by omega) (by omega) (by omega)).mono ?_
  rintro e w1 ⟨n, hn, rfl, ht1, hg1⟩
  have HT1 := Lib.hid ht1
  have HS1 := Lib.hid (Still.of_grown hg1 (Nat.le_refl _))
  have hsz1 := hg1.size
  have hn20 : n ≤ 20 := by omega
  clear HT ht1 hg1
  go_wp2_with (refine make_any _ rfl _ _ 22 23 (.slice none 0 0) 24 Try.underlying22 Try.infoRowG rfl (by decide) rfl .i64 .i64 _ _ n rfl rfl rfl rfl (by omega) ?_)
  intro w2 own2 hb2
  have HO2 := Lib.hid (rowsOwn_new own2)
  have HT2 := Lib.hid (HT1.out.keep hb2)
  have HS2 : Hid (Still gt w.heap.size w w2) := Lib.hid (HS1.out.trans (Still.of_below (hb2.mono hsz1)))
  have hsz2 : w1.heap.size < w2.heap.size := own_blk own2
  obtain ⟨G, hG⟩ : ∃ G, G = w1.heap.size := ⟨_, rfl⟩
  rw [← hG] at HO2 hsz2 ⊢
  have hGw : w.heap.size ≤ G := by omega
  clear own2 hb2 HT1 HS1 hG hsz1
  go_wp2_with fail
  refine (next_c B gt (T + 1) _ w2 HT2.out (by omega) (by omega) (by omega)).mono ?_
  rintro e w3 ⟨k0, hk0, rfl, ht3, hg3⟩
  have HO3 := Lib.hid (HO2.out.but hg3 (by omega))
  have HT3 := Lib.hid (ht3.more (T' := T + 3) (by omega))
  have HS3 := Lib.hid (HS2.out.trans (Still.of_grown hg3 (by omega)))
  have hsz3 : G < w3.heap.size := Nat.lt_of_lt_of_le hsz2 hg3.size
  clear HT2 HS2 HO2 ht3 hg3 hsz2
  go_wp2
  go_loopw [7] (fun v wr => ∃ (k i : Nat) (g : GraphD), v = .int .i64 k ∧ k + i = k0 ∧ g.length = n ∧ Hid (GrOk n g) ∧ Hid (RowsOwn wr G (.slice (some ⟨G, 0, none⟩) n n) g) ∧ Hid (TapeOk wr B gt (T + 3 + 2 * i)) ∧ Hid (Still gt w.heap.size w wr) ∧ G < wr.heap.size) (fun v _ => (intOf v).toNat)
  case atStart => exact ⟨k0, 0, _, rfl, rfl, by simp, Lib.hid (grOk_empty n), HO3, HT3, HS3, hsz3⟩
  case round =>
    clear HO3 HT3 HS3 hsz3
    obtain ⟨k, i, g, rfl, hki, hgl, HGr, HO, HT, HS, hsz⟩ := hrel
    by_cases hk : 0 < k
    · have hn1 : 1 ≤ n := by omega
      go_wp2_with fail
      refine (next_c B gt _ n wr HT.out (by omega) (by omega) (by omega)).mono ?_
      rintro e w4 ⟨v, hv, rfl, ht4, hg4⟩
      have HO4 := Lib.hid (HO.out.but hg4 (by omega))
      have HS4 := Lib.hid (HS.out.trans (Still.of_grown hg4 (by omega)))
      have hsz4 : G < w4.heap.size := Nat.lt_of_lt_of_le hsz hg4.size
      have HT4 := Lib.hid ht4
      clear HT HS HO ht4 hg4 hsz
      go_wp2_with fail
      refine (next_c B gt _ n w4 HT4.out (by omega) (by omega) (by omega)).mono ?_
      rintro e w5 ⟨x, hx, rfl, ht5, hg5⟩
      have HO5 := Lib.hid (HO4.out.but hg5 (by omega))
      have HS5 := Lib.hid (HS4.out.trans (Still.of_grown hg5 (by omega)))
      have hsz5 : G < w5.heap.size := Nat.lt_of_lt_of_le hsz4 hg5.size
      have HT5 := Lib.hid (ht5.more (T' := T + 3 + 2 * (i + 1)) (by omega))
      clear HT4 HS4 HO4 ht5 hg5 hsz4
      have hvg : v < g.length := by omega
      by_cases hvx : v = x
      · have hne : ((v : Int) != (x : Int)) = false := by simp [hvx]
        go_wp2
        go_roundw
        case rel => exact ⟨k - 1, i + 1, g, by go_num, by omega, hgl, HGr, HO5, HT5, HS5, hsz5⟩
        case measure => simp [intOf]; omega
      · have hne : ((v : Int) != (x : Int)) = true := by rw [bne_iff_ne]; omega
        obtain ⟨A1, c1, e1, f1, h1⟩ := HO5.out.cell hvg
        have hr24 : g[v].length ≤ 24 := by have := validG_short (HGr.out.valid (by omega)) _ (List.getElem_mem hvg); exact this
        have CH := Lib.hid (has_c A1 c1 g[v] x w5 h1 (by omega))
        have CI := Lib.hid (insert_c A1 c1 g[v] x w5 h1 (by omega))
        have hvn : v < n := by omega
        have HPut := Lib.hid (fun hn => HGr.out.put (v := v) (x := (x : Int)) hvg (by omega) hn)
        by_cases hin : (x : Int) ∈ g[v]
        · rw [decide_eq_true hin] at CH
          clear h1 CI hin HPut
          generalize g[v] = r at *
          go_wp2_with fail
          refine CH.out.mono ?_
          rintro e w6 ⟨rfl, rfl⟩
          go_wp2
          go_roundw
          case rel => exact ⟨k - 1, i + 1, g, by go_num, by omega, hgl, HGr, HO5, HT5, HS5, hsz5⟩
          case measure => simp [intOf]; omega
        · rw [decide_eq_false hin] at CH
          have HP := Lib.hid (HPut.out hin)
          have HPutR : Hid (∀ (W : World) u, RowsOwn W G (.slice (some ⟨G, 0, none⟩) n n) g → W.ownsRow G 3 1 u (insL g[v] x).length ((insL g[v] x).map Iv) → RowsOwn (W.setCell ⟨G, v, none⟩ u) G (.slice (some ⟨G, 0, none⟩) n n) (g.set v (insL g[v] x))) := Lib.hid (fun W u h1 h2 => by
            subst hgl
            exact h1.put h2 rfl)
          have hgl2 : (g.set v (insL g[v] x)).length = n := by simpa using hgl
          clear h1 hin HPut
          generalize insL g[v] x = r2 at *
          generalize g[v] = r at *
          go_wp2_with fail
          refine CH.out.mono ?_
          rintro e w6 ⟨rfl, rfl⟩
          go_wp2_with fail
          refine CI.out.mono ?_
          rintro e w7 ⟨u, rfl, own7, hb7⟩
          obtain ⟨Au, cu, rfl, _⟩ := own_is own7
          have HO7 := Lib.hid (HO5.out.keep hb7)
          obtain ⟨A7, c7, e7, f7, _⟩ := HO7.out.cell hvg
          have hsz7 : G < w7.heap.size := Nat.lt_of_lt_of_le hsz5 hb7.size
          have HO8 := Lib.hid (HPutR.out w7 _ HO7.out (ownsRow_base own7 (by omega)))
          have hbs : Below w5.heap.size w5 w7 := hb7
          have HT8 : Hid (TapeOk (w7.setCell ⟨G, v, none⟩ (.slice Au r2.length cu)) B gt (T + 3 + 2 * (i + 1))) := Lib.hid ((HT5.out.keep hb7).grown (row := some G) ⟨rfl, rfl, rfl, by simp [World.setCell], fun k _ hne => Below.heap_setCell w7 ⟨G, v, none⟩ _ k (fun e => hne (by rw [e]))⟩ (fun e => by injection e with e; omega) (fun b hb => by injection hb with hb; have := HT5.out; obtain ⟨_, _, _, _, _, _, _, _, h, _⟩ := this; omega))
          have HS8 : Hid (Still gt w.heap.size w (w7.setCell ⟨G, v, none⟩ (.slice Au r2.length cu))) := Lib.hid ((HS5.out.trans (Still.of_below (hb7.mono (by omega)))).trans (Still.of_below (below_put (Below.refl _ _) hGw)))
          have hsz8 : G < (w7.setCell ⟨G, v, none⟩ (.slice Au r2.length cu)).heap.size := by simp [World.setCell]; exact hsz7
          clear own7 hb7 hbs HO5 HT5 HS5 HO7 e1 f1
          generalize hlen : (g[v]'hvg).length = lenr at *
          clear hlen
          go_wp2
          go_roundw
          case rel => exact ⟨k - 1, i + 1, _, by go_num, by omega, hgl2, HP, HO8, HT8, HS8, hsz8⟩
          case measure => simp [intOf]; omega
    · have hk0 : k = 0 := by omega
      subst hk0
      subst hgl
      go_wp2
      go_ret
      exact ⟨_, g, rfl, by omega, HGr.out, by obtain ⟨vs, a, b, c⟩ := HO.out; exact ⟨vs, a, ownsRow_base b hGw, fun k u r h1 h2 => ownsRow_base (c k u r h1 h2) hGw⟩, HT.out.more (by omega), HS.out⟩
end Go.Proofs.Ytfgpenekmokdiaa

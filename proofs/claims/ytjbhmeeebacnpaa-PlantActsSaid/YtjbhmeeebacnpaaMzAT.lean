/- Joined texts. -/
import Derived.Test.YtjbhmeeebacnpaaMzAS
import Derived.Laws.StructEq
import Derived.BigQuiet
import Derived.Deep.RegionHeld3
import Derived.Deep.DeepCutAuto
namespace Go.Proofs.Ytjbhmeeebacnpaa
open Go Go.RowKit Fl

abbrev BV (b : BodD) : Value := .agg #[.int .i64 b.cel, .int .i64 b.dst, .bool b.srv, .bool b.flt]
abbrev BC (b : BodD) : Array Value := #[.int .i64 b.cel, .int .i64 b.dst, .bool b.srv, .bool b.flt]
def bodS : StK BodD where
  f b := [.int .i64 b.cel, .int .i64 b.dst, .bool b.srv, .bool b.flt]
  k := 4
  e := 40
  t := 30
  z := .agg #[.int .i64 0, .int .i64 0, .bool false, .bool false]
  bytes := 24
  pos := by decide
  zsize := rfl
  len _ := rfl
  one b u hu := by
    simp only [List.mem_cons, List.not_mem_nil, or_false] at hu
    rcases hu with rfl | rfl | rfl | rfl <;> rfl
  under := Try.underlying30
  info := by kernel_rfl
  small := by decide
theorem bod_cells {w : World} {b o : Nat} {q : BodD} (h : bodS.At w b o q) : w.cell? ⟨b, o, none⟩ = some (.int .i64 q.cel) ∧ w.cell? ⟨b, o + 1, none⟩ = some (.int .i64 q.dst) ∧ w.cell? ⟨b, o + 2, none⟩ = some (.bool q.srv) ∧ w.cell? ⟨b, o + 3, none⟩ = some (.bool q.flt) :=
  ⟨h 0 _ rfl, h 1 _ rfl, h 2 _ rfl, h 3 _ rfl⟩
theorem bod_eq (f g : BodD) (W : World) : (Op.equalIn 10000 40 (BV f) (BV g)).run Try.prog W = .ok (decide (f = g)) W := by
  have hz := Try.underlying40
  rw [run_equalIn_agg W 9999 _ _ _ (by kernel_rfl) (by kernel_rfl)]
  simp only [Program.fieldsOf, hz]
  simp [go_sem]
  obtain ⟨a0, a1, a2, a3⟩ := f
  obtain ⟨b0, b1, b2, b3⟩ := g
  simp only [BodD.mk.injEq]
  by_cases h0 : a0 = b0 <;> by_cases h1 : a1 = b1 <;> by_cases h2 : a2 = b2 <;> by_cases h3 : a3 = b3 <;> simp [h0, h1, h2, h3]
theorem guard_bod (op : BinOp) (x y : Operand) (xs ys : Array Value) (W : World) : (eqGuard op 40 x y (.agg xs) (.agg ys)).run Try.prog W = .ok () W := run_eqGuard_agg W _ _ _ _ _ _ (by kernel_rfl)
end Go.Proofs.Ytjbhmeeebacnpaa
namespace Go.Proofs.Ytjbhmeeebacnpaa
open Go Go.RowKit Fl

theorem below_newB (w : World) (o : Obj) : Below w.heap.size w (w.alloc o) := (Below.refl _ _).alloc (Nat.le_refl _) _
set_option maxRecDepth 100000 in
set_option maxHeartbeats 1000000 in
theorem refRest_c (b : BodD) (w : World) : Calls Try.prog 52 #[BV b] w fun e w' => e = .returned (.bool (restB b)) ∧ Below w.heap.size w w' := by
  have HB := Lib.hid (below_newB w (.cells (BC b) 40))
  obtain ⟨cel, dst, srv, flt⟩ := b
  obtain ⟨z, hz⟩ : ∃ z, restB ⟨cel, dst, srv, flt⟩ = z := ⟨_, rfl⟩
  rw [hz]
  have HZ : Hid (z = (cel != -1 && dst == -1 && !srv && !flt)) := Lib.hid hz.symm
  clear hz
  by_cases h1 : cel = -1
  · have HR : Hid (z = false) := Lib.hid (by rw [HZ.out]; simp [h1])
    have h1' : (cel != -1) = false := by simpa using h1
    clear HZ h1
    go_enter Try.func52, Try.ntmps52
    go_wp2
    go_ret
    exact ⟨gr_bool HR.out.symm, HB.out⟩
  · have h1' : (cel != -1) = true := by simpa using h1
    by_cases h2 : dst = -1
    · have h2' : (dst == -1) = true := by simpa using h2
      rcases srv with _ | _
      · rcases flt with _ | _
        · have HR : Hid (z = true) := Lib.hid (by rw [HZ.out]; simp [h1, h2])
          clear HZ h1 h2
          go_enter Try.func52, Try.ntmps52
          go_wp2
          go_ret
          exact ⟨gr_bool HR.out.symm, HB.out⟩
        · have HR : Hid (z = false) := Lib.hid (by rw [HZ.out]; simp)
          clear HZ h1 h2
          go_enter Try.func52, Try.ntmps52
          go_wp2
          go_ret
          exact ⟨gr_bool HR.out.symm, HB.out⟩
      · have HR : Hid (z = false) := Lib.hid (by rw [HZ.out]; simp)
        clear HZ h1 h2
        go_enter Try.func52, Try.ntmps52
        go_wp2
        go_ret
        exact ⟨gr_bool HR.out.symm, HB.out⟩
    · have h2' : (dst == -1) = false := by simpa using h2
      have HR : Hid (z = false) := Lib.hid (by rw [HZ.out]; simp [h2])
      clear HZ h1 h2
      go_enter Try.func52, Try.ntmps52
      go_wp2
      go_ret
      exact ⟨gr_bool HR.out.symm, HB.out⟩
set_option maxRecDepth 100000 in
set_option maxHeartbeats 1000000 in
/-- Same of two equal lists. -/
theorem refSameB_c (A1 A2 : Option Addr) (c1 c2 n : Nat) (l : List BodD) (hn : l.length = n) (w : World) (h1 : Holds w A1 (bodS.cs l)) (h2 : Holds w A2 (bodS.cs l)) (hl : n ≤ 1000000000000000000) :
    Calls Try.prog 15 #[.slice A1 n c1, .slice A2 n c2] w fun e w' => e = .returned (.bool true) ∧ ∃ q, w' = w.drewN q := by
  have H1 := Lib.hid h1
  have H2 := Lib.hid h2
  have HN := Lib.hid hn
  have hgd := guard_bod
  clear h1 h2 hn
  go_enter Try.func15, Try.ntmps15
  go_wp2
  go_loopw [5] (fun i wr => ∃ j q : Nat, i = .int .i64 j ∧ j ≤ n ∧ wr = w.drewN q) (fun i _ => n - (intOf i).toNat)
  case atStart => exact ⟨0, 0, rfl, Nat.zero_le _, rfl⟩
  case round =>
    obtain ⟨j, q, rfl, hj, rfl⟩ := hrel
    by_cases hlt : j < n
    · obtain ⟨b1, o1, rfl, _, a1⟩ := StK.holds_at H1.out (i := j) (by rw [HN.out]; exact hlt)
      obtain ⟨b2, o2, rfl, _, a2⟩ := StK.holds_at H2.out (i := j) (by rw [HN.out]; exact hlt)
      obtain ⟨x0, x1, x2, x3⟩ := bod_cells a1
      obtain ⟨y0, y1, y2, y3⟩ := bod_cells a2
      have hef := fun W => bod_eq (l[j]'(by rw [HN.out]; exact hlt)) (l[j]'(by rw [HN.out]; exact hlt)) W
      simp only [decide_true] at hef
      generalize l[j]'(by rw [HN.out]; exact hlt) = f at *
      obtain ⟨cel, dst, srv, flt⟩ := f
      dsimp only at x0 x1 x2 x3 y0 y1 y2 y3
      have hjl : (j : Int) < (n : Int) := by omega
      rw [show bodS.k = 4 from rfl] at x0 x1 x2 x3 y0 y1 y2 y3
      clear a1 a2 H1 H2
      go_wp2
      go_quiet (fail)
      go_wp2
      go_roundw
      case rel => exact ⟨j + 1, _, by go_num, by omega, rfl⟩
      case measure => simp [intOf]; omega
    · go_wp2
      go_ret
      exact ⟨rfl, _, rfl⟩
set_option maxRecDepth 100000 in
set_option maxHeartbeats 1000000 in
theorem refFp_c (b : BodD) (w : World) : Calls Try.prog 20 #[BV b] w fun e w' => ∃ u, e = .returned u ∧ w'.ownsRow w.heap.size 3 1 u (fpB b).length ((fpB b).map (fun z => Value.int .i64 z)) ∧ Below w.heap.size w w' := by
  have HB := Lib.hid (below_newB w (.cells (BC b) 40))
  obtain ⟨cel, dst, srv, flt⟩ := b
  have hsz : w.heap.size ≤ (w.alloc (.cells #[.int .i64 cel, .int .i64 dst, .bool srv, .bool flt] 40)).heap.size := by simp
  have HL10 := World.ownsRow_lit (base := w.heap.size) (e := 3) (size := 1) (w.alloc (.cells #[.int .i64 cel, .int .i64 dst, .bool srv, .bool flt] 40)) #[Value.int .i64 cel] 1 hsz (by unfold maxLen; omega) rfl
  rw [show (w.alloc (.cells #[.int .i64 cel, .int .i64 dst, .bool srv, .bool flt] 40)).heap.size = w.heap.size + 1 by simp] at HL10
  have HL1 := Lib.hid HL10
  clear HL10
  have HL20 := World.ownsRow_lit (base := w.heap.size) (e := 3) (size := 1) (w.alloc (.cells #[.int .i64 cel, .int .i64 dst, .bool srv, .bool flt] 40)) #[Value.int .i64 (min cel dst), Value.int .i64 (max cel dst)] 2 hsz (by unfold maxLen; omega) rfl
  rw [show (w.alloc (.cells #[.int .i64 cel, .int .i64 dst, .bool srv, .bool flt] 40)).heap.size = w.heap.size + 1 by simp] at HL20
  have HL2 := Lib.hid HL20
  clear HL20
  by_cases h1 : cel = -1
  · have e : fpB ⟨cel, dst, srv, flt⟩ = [] := if_pos h1
    rw [e]
    have h1' : (cel == -1) = true := by simpa using h1
    clear e h1 HL1 HL2
    go_enter Try.func20, Try.ntmps20
    go_wp2
    go_ret
    exact ⟨_, rfl, World.ownsRow_nil _ _ _ _, HB.out⟩
  · have h1' : (cel == -1) = false := by simpa using h1
    by_cases h2 : dst = -1
    · have e : fpB ⟨cel, dst, srv, flt⟩ = [cel] := by unfold fpB; rw [if_neg h1, if_pos (.inl h2)]
      rw [e]
      have h2' : (dst == -1) = true := by simpa using h2
      clear e h1 h2 HL2
      go_enter Try.func20, Try.ntmps20
      go_wp2
      go_ret
      exact ⟨_, rfl, HL1.out, HB.out.alloc hsz _⟩
    · have h2' : (dst == -1) = false := by simpa using h2
      by_cases h3 : dst = cel
      · have e : fpB ⟨cel, dst, srv, flt⟩ = [cel] := by unfold fpB; rw [if_neg h1, if_pos (.inr h3)]
        rw [e]
        have h3' : (dst == cel) = true := by simpa using h3
        clear e h1 h2 h3 HL2
        go_enter Try.func20, Try.ntmps20
        go_wp2
        go_ret
        exact ⟨_, rfl, HL1.out, HB.out.alloc hsz _⟩
      · have e : fpB ⟨cel, dst, srv, flt⟩ = [min cel dst, max cel dst] := by
          unfold fpB
          rw [if_neg h1, if_neg (fun h => h.elim h2 h3)]
        rw [e]
        have h3' : (dst == cel) = false := by simpa using h3
        clear e h1 h2 h3 HL1
        go_enter Try.func20, Try.ntmps20
        go_wp2
        go_ret
        exact ⟨_, rfl, HL2.out, HB.out.alloc hsz _⟩
end Go.Proofs.Ytjbhmeeebacnpaa
namespace Go.Proofs.Ytjbhmeeebacnpaa
open Go Go.RowKit Fl

/-- Block b holds a body. -/
def BodAt (w : World) (b : Nat) (q : BodD) : Prop := w.heap[b]? = some (.cells (BC q) 40 (0, 0))
theorem BodAt.new (w : World) (q : BodD) : BodAt (w.alloc (.cells (BC q) 40)) w.heap.size q := heap_alloc_new w _
theorem BodAt.keep {w w' : World} {b : Nat} {q : BodD} (h : BodAt w b q) (hb : Below w.heap.size w w') : BodAt w' b q := (hb.block b (block_lt h)).trans h
theorem BodAt.cell {w : World} {b : Nat} {q : BodD} (h : BodAt w b q) : w.cell? ⟨b, 0, none⟩ = some (.int .i64 q.cel) ∧ w.cell? ⟨b, 1, none⟩ = some (.int .i64 q.dst) ∧ w.cell? ⟨b, 2, none⟩ = some (.bool q.srv) ∧ w.cell? ⟨b, 3, none⟩ = some (.bool q.flt) := by
  unfold BodAt at h
  refine ⟨?_, ?_, ?_, ?_⟩ <;> rw [cell_of_row w b _ _ _ (0, 0) h] <;> rfl
theorem BodAt.frozen {w : World} {b : Nat} {q : BodD} (h : BodAt w b q) (i : Nat) : w.frozen? ⟨b, i, none⟩ = false := by
  unfold BodAt at h
  simp [World.frozen?, h]
theorem BodAt.put4 {w : World} {b : Nat} {g : BodD} (h : BodAt w b g) (f : BodD) : BodAt ((((w.setCell ⟨b, 0, none⟩ (.int .i64 f.cel)).setCell ⟨b, 1, none⟩ (.int .i64 f.dst)).setCell ⟨b, 2, none⟩ (.bool f.srv)).setCell ⟨b, 3, none⟩ (.bool f.flt)) b f := by
  unfold BodAt at h ⊢
  simp [World.setCell, Array.getElem?_modify, h]
theorem BodAt.far {w : World} {b X i : Nat} {q : BodD} {v : Value} (h : BodAt w b q) (hX : X ≠ b) : BodAt (w.setCell ⟨X, i, none⟩ v) b q := (Below.heap_setCell w ⟨X, i, none⟩ v b (fun e => hX e.symm)).trans h
theorem BodAt.far4 {w : World} {b X : Nat} {q : BodD} {v0 v1 v2 v3 : Value} (h : BodAt w b q) (hX : X ≠ b) : BodAt ((((w.setCell ⟨X, 0, none⟩ v0).setCell ⟨X, 1, none⟩ v1).setCell ⟨X, 2, none⟩ v2).setCell ⟨X, 3, none⟩ v3) b q := (((h.far hX).far hX).far hX).far hX
theorem results_bd {fn : Func} {p q : Tmp} (h : fn.results = #[.cell p 40, .tmp q]) (tmps : Array Value) (w : World) (g : Nat) (s : BodD) (u : Value)
    (hp : tmps.getD p undef = .pointer (some ⟨g, 0, none⟩)) (hg : BodAt w g s) (hu : tmps.getD q undef = u) :
    (results fn tmps).run Try.prog w = .ok (.tuple #[BV s, u]) w := by
  have hp' : tmps[p]?.getD undef = .pointer (some ⟨g, 0, none⟩) := by simpa using hp
  have hu' : tmps[q]?.getD undef = u := by simpa using hu
  simp [results, h, hp', hu', asAddr, run_loadVar_row w g 40 40 (BC s) (0, 0) _ hg Try.underlying40 rfl (by kernel_rfl)]
/-- Three new blocks: the last two hold bodies. -/
theorem three_bd (w : World) (o : Obj) (q r : BodD) : BodAt (((w.alloc o).alloc (.cells (BC q) 40)).alloc (.cells (BC r) 40)) (w.heap.size + 1 + 1) r ∧ BodAt (((w.alloc o).alloc (.cells (BC q) 40)).alloc (.cells (BC r) 40)) (w.heap.size + 1) q ∧ Below w.heap.size w (((w.alloc o).alloc (.cells (BC q) 40)).alloc (.cells (BC r) 40)) := by
  have h1 := BodAt.new ((w.alloc o).alloc (.cells (BC q) 40)) r
  have h2 := BodAt.new (w.alloc o) q
  rw [show ((w.alloc o).alloc (.cells (BC q) 40)).heap.size = w.heap.size + 1 + 1 by simp] at h1
  rw [show (w.alloc o).heap.size = w.heap.size + 1 by simp] at h2
  exact ⟨h1, h2.keep (below_newB _ _), ((below_newB w _).alloc (by simp) _).alloc (by simp; omega) _⟩
theorem StK.Own.blk {α : Type} {S : StK α} {w : World} {base : Nat} {v : Value} {l : List α} (h : S.Own w base v l) (hl : 0 < l.length) : ∃ g c, v = .slice (some ⟨g, 0, none⟩) l.length c ∧ base ≤ g ∧ g < w.heap.size := by
  obtain ⟨_, h2⟩ := h
  rcases h2 with ⟨_, he⟩ | ⟨g, cap, cur, hv, hg, hh, _⟩
  · omega
  · exact ⟨g, cap, hv, hg, block_lt hh⟩
theorem okB_all (fol : Bool) (b : BodD) (a : Int) : okB fol b a = true ∨ okB fol b a = false := by cases okB fol b a <;> simp
end Go.Proofs.Ytjbhmeeebacnpaa
namespace Go.Proofs.Ytjbhmeeebacnpaa
open Go Go.RowKit Fl

theorem BodAt.grown {w w' : World} {b : Nat} {q : BodD} {row : Option Nat} (h : BodAt w b q) (hg : w.grownBy w' row) (hr : row ≠ some b) : BodAt w' b q := (hg.block b (block_lt h) (fun e => hr e.symm)).trans h
theorem gbB_next {w a b : World} {g : Nat} (h : w.grownBy a (some g)) (k : a.grownBy b (some g)) : w.grownBy b (some g) :=
  ⟨k.os.trans h.os, k.tape.trans h.tape, k.output.trans h.output, Nat.le_trans h.size k.size, fun i hi hn => (k.block i (Nat.lt_of_lt_of_le hi h.size) hn).trans (h.block i hi hn)⟩
theorem gbB_below {w a b : World} {g : Nat} (h : w.grownBy a (some g)) (k : Below w.heap.size a b) : w.grownBy b (some g) :=
  ⟨k.os.trans h.os, k.tape.trans h.tape, k.output.trans h.output, Nat.le_trans h.size k.size, fun i hi hn => (k.block i hi).trans (h.block i hi hn)⟩
theorem gbB_refl (w : World) (g : Nat) : w.grownBy w (some g) := ⟨rfl, rfl, rfl, Nat.le_refl _, fun _ _ _ => rfl⟩
/-- What the making of a body has so far: the zero result in R, the body in X. -/
structure BM (w : World) (B gt T R X : Nat) (q : BodD) (wx : World) : Prop where
  gb : w.grownBy wx (some gt)
  tape : TapeOk wx B gt T
  zero : BodAt wx R zeroB
  bd : BodAt wx X q
theorem BM.next {w wx wy : World} {B gt T R X : Nat} {q : BodD} (h : BM w B gt T R X q wx) (ht : TapeOk wy B gt (T + 1)) (hg : wx.grownBy wy (some gt)) (hR : R ≠ gt) (hX : X ≠ gt) : BM w B gt (T + 1) R X q wy :=
  ⟨gbB_next h.gb hg, ht, h.zero.grown hg (fun e => by injection e with e; exact hR e.symm), h.bd.grown hg (fun e => by injection e with e; exact hX e.symm)⟩
theorem BM.put {w wx : World} {B gt T R X i : Nat} {q q' : BodD} {v : Value} (h : BM w B gt T R X q wx) (hR : R ≠ X) (hX : X ≠ gt) (hw : w.heap.size ≤ X) (hB : B ≤ X) (hf : (BC q).setIfInBounds i v = BC q') : BM w B gt T R X q' (wx.setCell ⟨X, i, none⟩ v) := by
  have hg : wx.grownBy (wx.setCell ⟨X, i, none⟩ v) (some X) := ⟨rfl, rfl, rfl, by simp [World.setCell], fun k _ hne => Below.heap_setCell wx ⟨X, i, none⟩ v k (fun e => hne (by rw [e]))⟩
  refine ⟨gbB_below h.gb ((Below.refl _ _).setCell (by simpa using hw) _), h.tape.grown hg (fun e => by injection e with e; exact hX e) (fun k hk => by injection hk with hk; omega), h.zero.grown hg (fun e => by injection e with e; exact hR e.symm), ?_⟩
  have := h.bd
  unfold BodAt at this ⊢
  rw [← hf]
  simp [World.setCell, Array.getElem?_modify, this]
def put4W (w : World) (b : Nat) (f : BodD) : World := (((w.setCell ⟨b, 0, none⟩ (.int .i64 f.cel)).setCell ⟨b, 1, none⟩ (.int .i64 f.dst)).setCell ⟨b, 2, none⟩ (.bool f.srv)).setCell ⟨b, 3, none⟩ (.bool f.flt)
theorem BM.done {w wx : World} {B gt T R X : Nat} {f : BodD} (h : BM w B gt T R X f wx) (hR : w.heap.size ≤ R) (hB : B ≤ R) (hg : R ≠ gt) : BodAt (put4W wx R f) R f ∧ TapeOk (put4W wx R f) B gt T ∧ w.grownBy (put4W wx R f) (some gt) := by
  have hb : Below R wx (put4W wx R f) := below_put (below_put (below_put (below_put (Below.refl _ _) (Nat.le_refl _)) (Nat.le_refl _)) (Nat.le_refl _)) (Nat.le_refl _)
  have hgr : wx.grownBy (put4W wx R f) (some R) := by
    have h1 : ∀ (a : World) (i : Nat) (v : Value), a.grownBy (a.setCell ⟨R, i, none⟩ v) (some R) := fun a i v => ⟨rfl, rfl, rfl, by simp [World.setCell], fun k _ hne => Below.heap_setCell a ⟨R, i, none⟩ v k (fun e => hne (by rw [e]))⟩
    exact gbB_next (gbB_next (gbB_next (h1 _ _ _) (h1 _ _ _)) (h1 _ _ _)) (h1 _ _ _)
  exact ⟨h.zero.put4 f, h.tape.grown hgr (fun e => by injection e with e; exact hg e) (fun k hk => by injection hk with hk; omega), gbB_below h.gb (hb.mono hR)⟩
theorem results_bd1 {fn : Func} {p : Tmp} (h : fn.results = #[.cell p 40]) (tmps : Array Value) (w : World) (g : Nat) (s : BodD)
    (hp : tmps.getD p undef = .pointer (some ⟨g, 0, none⟩)) (hg : BodAt w g s) : (results fn tmps).run Try.prog w = .ok (BV s) w := by
  have hp' : tmps[p]?.getD undef = .pointer (some ⟨g, 0, none⟩) := by simpa using hp
  simp [results, h, hp', asAddr, run_loadVar_row w g 40 40 (BC s) (0, 0) _ hg Try.underlying40 rfl (by kernel_rfl)]
/-- A body that law 16 makes: its cells are below c, or none. -/
def MadeBody (c : Nat) (q : BodD) : Prop := -1 ≤ q.cel ∧ q.cel < c ∧ -1 ≤ q.dst ∧ q.dst < c
def BodyPost (w : World) (B gt T c : Nat) (e : Ending) (w' : World) : Prop := ∃ q : BodD, e = .returned (BV q) ∧ MadeBody c q ∧ TapeOk w' B gt (T + 5) ∧ w.grownBy w' (some gt)
set_option maxRecDepth 100000 in
set_option maxHeartbeats 4000000 in
theorem body_c (B gt T c : Nat) (w : World) (ht : TapeOk w B gt T) (hT : T ≤ 1000000) (hgt : gt < w.heap.size) (hc : 1 ≤ c) (hc2 : c ≤ 1000) :
    Calls Try.prog 11 #[.pointer (some ⟨gt, 0, none⟩), .int .i64 c] w (BodyPost w B gt T c) := by
  have HT := Lib.hid ht
  have hBg : B ≤ gt := by obtain ⟨_, _, _, _, _, _, _, _, h, _⟩ := ht; exact h
  have HW : Hid (Below w.heap.size w (w.alloc (.cells #[.int .i64 0, .int .i64 0, .bool false, .bool false] 40))) := Lib.hid (below_newB w _)
  have HZ : Hid (BodAt (w.alloc (.cells #[.int .i64 0, .int .i64 0, .bool false, .bool false] 40)) w.heap.size zeroB) := Lib.hid (BodAt.new w zeroB)
  have HT1 := Lib.hid (HT.out.keep HW.out)
  have hs1 : w.heap.size < (w.alloc (.cells #[.int .i64 0, .int .i64 0, .bool false, .bool false] 40)).heap.size := by simp
  have HG1 := Lib.hid (gbB_below (gbB_refl w gt) HW.out)
  have hwc : IntKind.i64.wrap ((c : Int) + 1) = (c : Int) + 1 := IntWalk.i64_in _ (by omega)
  clear ht HT
  go_enter Try.func11, Try.ntmps11
  go_wp2_with fail
  generalize (w.alloc (.cells #[.int .i64 0, .int .i64 0, .bool false, .bool false] 40)) = w1 at *
  refine (next_c B gt T ((c : Int) + 1) w1 HT1.out (by omega) (by omega) (by omega)).mono ?_
  rintro e w2 ⟨r0, hr0, rfl, ht2, hg2⟩
  have HT2 := Lib.hid ht2
  have HG2 := Lib.hid (gbB_next HG1.out hg2)
  have HZ2 := Lib.hid (HZ.out.grown hg2 (fun e => by injection e with e; omega))
  have hs2 := Nat.lt_of_lt_of_le hs1 hg2.size
  have hwr : IntKind.i64.wrap ((r0 : Int) - 1) = (r0 : Int) - 1 := IntWalk.i64_in _ (by omega)
  clear ht2 hg2 HT1 HG1 HZ hs1 hwc
  go_wp2_with fail
  refine (next_c B gt _ 4 w2 HT2.out (by omega) (by omega) (by omega)).mono ?_
  rintro e w3 ⟨r1, hr1, rfl, ht3, hg3⟩
  have HT3 := Lib.hid ht3
  have HG3 := Lib.hid (gbB_next HG2.out hg3)
  have HZ3 := Lib.hid (HZ2.out.grown hg3 (fun e => by injection e with e; omega))
  have hs3 := Nat.lt_of_lt_of_le hs2 hg3.size
  clear ht3 hg3 HT2 HG2 HZ2 hs2
  go_wp2_with fail
  refine (next_c B gt _ 5 w3 HT3.out (by omega) (by omega) (by omega)).mono ?_
  rintro e w4 ⟨r2, hr2, rfl, ht4, hg4⟩
  have HT4 := Lib.hid ht4
  have HG4 := Lib.hid (gbB_next HG3.out hg4)
  have HZ4 := Lib.hid (HZ3.out.grown hg4 (fun e => by injection e with e; omega))
  have hs4 := Nat.lt_of_lt_of_le hs3 hg4.size
  clear ht4 hg4 HT3 HG3 HZ3 hs3
  generalize hbs : ((r1 : Int) == 0) = sv
  generalize hbf : ((r2 : Int) == 0) = fv
  go_wp2_with fail
  have HM : Hid (BM w B gt (T + 1 + 1 + 1) w.heap.size w4.heap.size ⟨(r0 : Int) - 1, -1, sv, fv⟩ (w4.alloc (.cells #[.int .i64 ((r0 : Int) - 1), .int .i64 (-1), .bool sv, .bool fv] 40))) := Lib.hid ⟨gbB_below HG4.out ((below_newB w4 _).mono (Nat.le_of_lt hs4)), HT4.out.keep (below_newB w4 _), HZ4.out.keep (below_newB w4 _), BodAt.new w4 ⟨(r0 : Int) - 1, -1, sv, fv⟩⟩
  generalize (w4.alloc (.cells #[.int .i64 ((r0 : Int) - 1), .int .i64 (-1), .bool sv, .bool fv] 40)) = w5 at *
  generalize w4.heap.size = X at *
  clear HT4 HG4 HZ4 hbs hbf
  refine (next_c B gt _ 3 w5 HM.out.tape (by omega) (by omega) (by omega)).mono ?_
  rintro e w6 ⟨r3, hr3, rfl, ht6, hg6⟩
  have HM6 := Lib.hid (HM.out.next ht6 hg6 (by omega) (by omega))
  clear ht6 hg6 HM
  by_cases h3 : r3 = 0
  · subst h3
    go_wp2_with fail
    refine (next_c B gt _ c w6 HM6.out.tape (by omega) (by omega) (by omega)).mono ?_
    rintro e w7 ⟨r4, hr4, rfl, ht7, hg7⟩
    have HM7 := Lib.hid (HM6.out.next ht7 hg7 (by omega) (by omega))
    obtain ⟨k0, k1, k2, k3⟩ := HM7.out.bd.cell
    have fk := HM7.out.bd.frozen
    have HP := Lib.hid (HM7.out.put (i := 1) (v := .int .i64 (r4 : Int)) (q' := ⟨(r0 : Int) - 1, (r4 : Int), sv, fv⟩) (by omega) (by omega) (by omega) (by omega) rfl)
    have HMB : Hid (MadeBody c ⟨(r0 : Int) - 1, (r4 : Int), sv, fv⟩) := Lib.hid ⟨by simp only; omega, by simp only; omega, by simp only; omega, by simp only; omega⟩
    clear ht7 hg7 HM6 HM7
    have HD := Lib.hid (HP.out.done (by omega) (by omega) (by omega))
    obtain ⟨d0, d1, d2, d3⟩ := HP.out.bd.cell
    obtain ⟨z0, z1, z2, z3⟩ := HP.out.zero.cell
    have fz := HP.out.zero.frozen
    clear HP
    go_wp2
    exact bodyPost_ret (results_bd1 rfl _ _ _ ⟨(r0 : Int) - 1, (r4 : Int), sv, fv⟩ rfl HD.out.1) rfl ⟨⟨(r0 : Int) - 1, (r4 : Int), sv, fv⟩, rfl, HMB.out, HD.out.2.1.more (by omega), HD.out.2.2⟩
  · have h30 : ((r3 : Int) == 0) = false := by rw [beq_eq_false_iff_ne]; omega
    have HP := HM6
    have HMB : Hid (MadeBody c ⟨(r0 : Int) - 1, -1, sv, fv⟩) := Lib.hid ⟨by simp only; omega, by simp only; omega, by simp only; omega, by simp only; omega⟩
    clear HM6
    have HD := Lib.hid (HP.out.done (by omega) (by omega) (by omega))
    obtain ⟨d0, d1, d2, d3⟩ := HP.out.bd.cell
    obtain ⟨z0, z1, z2, z3⟩ := HP.out.zero.cell
    have fz := HP.out.zero.frozen
    clear HP
    go_wp2
    exact bodyPost_ret (results_bd1 rfl _ _ _ ⟨(r0 : Int) - 1, -1, sv, fv⟩ rfl HD.out.1) rfl ⟨⟨(r0 : Int) - 1, -1, sv, fv⟩, rfl, HMB.out, HD.out.2.1.more (by omega), HD.out.2.2⟩
end Go.Proofs.Ytjbhmeeebacnpaa
namespace Go.Proofs.Ytjbhmeeebacnpaa
open Go Go.RowKit Fl

set_option maxRecDepth 100000 in
set_option maxHeartbeats 1000000 in
theorem floor_c (b : BodD) (w : World) : Calls Try.prog 33 #[BV b] w fun e w' => e = .returned (.bool (floorB b)) ∧ Below w.heap.size w w' := by
  have HB := Lib.hid (below_newB w (.cells (BC b) 40))
  obtain ⟨cel, dst, srv, flt⟩ := b
  go_enter Try.func33, Try.ntmps33
  go_wp2
  go_ret
  exact ⟨gr_bool rfl, HB.out⟩
set_option maxRecDepth 100000 in
set_option maxHeartbeats 1000000 in
theorem transit_c (b : BodD) (w : World) : Calls Try.prog 34 #[BV b] w fun e w' => e = .returned (.bool (floorB b && b.dst != -1)) ∧ Below w.heap.size w w' := by
  have HB := Lib.hid (below_newB w (.cells (BC b) 40))
  have HF := Lib.hid (fun W => floor_c b W)
  have HX := Lib.hid (BodAt.new w b)
  generalize floorB b = z at *
  obtain ⟨cel, dst, srv, flt⟩ := b
  rcases z with _ | _
  · go_enter Try.func34, Try.ntmps34
    go_wp2_with fail
    refine (HF.out _).mono ?_
    rintro e w2 ⟨rfl, hb⟩
    have HB2 := Lib.hid (HB.out.trans (hb.mono HB.out.size))
    clear hb HF
    go_wp2
    go_ret
    exact ⟨rfl, HB2.out⟩
  · go_enter Try.func34, Try.ntmps34
    go_wp2_with fail
    refine (HF.out _).mono ?_
    rintro e w2 ⟨rfl, hb⟩
    have HB2 := Lib.hid (HB.out.trans (hb.mono HB.out.size))
    obtain ⟨x0, x1, x2, x3⟩ := (HX.out.keep hb).cell
    clear hb HF
    go_wp2
    go_ret
    exact ⟨gr_bool rfl, HB2.out⟩
def cellB (c : Int) : Bool := decide (0 ≤ c ∧ c < 48)
set_option maxRecDepth 100000 in
set_option maxHeartbeats 1000000 in
theorem isCell_c (c : Int) (w : World) : Calls Try.prog 40 #[.int .i64 c] w fun e w' => e = .returned (.bool (cellB c)) ∧ Below w.heap.size w w' := by
  have HB := Lib.hid (Below.refl w.heap.size w)
  by_cases h0 : 0 ≤ c
  · go_enter Try.func40, Try.ntmps40
    go_wp2
    go_ret
    exact ⟨gr_bool (by unfold cellB; simp [h0]), HB.out⟩
  · go_enter Try.func40, Try.ntmps40
    go_wp2
    go_ret
    exact ⟨gr_bool (by unfold cellB; rw [decide_eq_false (fun h => by omega)]), HB.out⟩
set_option maxRecDepth 100000 in
set_option maxHeartbeats 1000000 in
theorem resting_c (c : Int) (w : World) : Calls Try.prog 38 #[.int .i64 c] w fun e w' => e = .returned (BV ⟨c, -1, false, false⟩) ∧ Below w.heap.size w w' := by
  have HX := Lib.hid (BodAt.new w ⟨c, -1, false, false⟩)
  have HB := Lib.hid (below_newB w (.cells (BC ⟨c, -1, false, false⟩) 40))
  go_enter Try.func38, Try.ntmps38
  go_wp2
  exact bodyPost_ret (results_bd1 rfl _ _ _ ⟨c, -1, false, false⟩ rfl HX.out) rfl ⟨rfl, HB.out⟩
theorem rest_eq (b : BodD) : (floorB b && decide (b = ⟨b.cel, -1, false, false⟩)) = restB b := by
  obtain ⟨cel, dst, srv, flt⟩ := b
  unfold restB
  by_cases h1 : dst = -1 <;> cases srv <;> cases flt <;> simp [h1]
set_option maxRecDepth 100000 in
set_option maxHeartbeats 1000000 in
theorem atRest_c (b : BodD) (w : World) : Calls Try.prog 39 #[BV b] w fun e w' => e = .returned (.bool (restB b)) ∧ Below w.heap.size w w' := by
  have HB := Lib.hid (below_newB w (.cells (BC b) 40))
  have HF := Lib.hid (fun W => floor_c b W)
  have HG := Lib.hid (fun W => resting_c b.cel W)
  have HX := Lib.hid (BodAt.new w b)
  have HQ := Lib.hid (bod_eq b ⟨b.cel, -1, false, false⟩)
  have HE := Lib.hid (rest_eq b)
  have hgd := guard_bod
  generalize restB b = z at *
  generalize decide (b = ⟨b.cel, -1, false, false⟩) = y at *
  generalize floorB b = x at *
  obtain ⟨cel, dst, srv, flt⟩ := b
  have hE := HE.out
  have hq := HQ.out
  dsimp only at hq
  subst hE
  have HEnd : Hid (∀ W, Below (w.heap.size + 1) (w.alloc (.cells #[.int .i64 cel, .int .i64 dst, .bool srv, .bool flt] 40)) W → Below w.heap.size w W) := Lib.hid (fun W hW => HB.out.trans (hW.mono (by omega)))
  have s1 : (w.alloc (.cells #[.int .i64 cel, .int .i64 dst, .bool srv, .bool flt] 40)).heap.size = w.heap.size + 1 := by simp
  have HK : Hid (∀ W, Below (w.heap.size + 1) (w.alloc (.cells #[.int .i64 cel, .int .i64 dst, .bool srv, .bool flt] 40)) W → W.cell? ⟨w.heap.size, 0, none⟩ = some (.int .i64 cel) ∧ W.cell? ⟨w.heap.size, 1, none⟩ = some (.int .i64 dst) ∧ W.cell? ⟨w.heap.size, 2, none⟩ = some (.bool srv) ∧ W.cell? ⟨w.heap.size, 3, none⟩ = some (.bool flt)) := Lib.hid (fun W hW => (HX.out.keep (s1 ▸ hW)).cell)
  have HF1 : Hid (∀ W, Below (w.heap.size + 1) (w.alloc (.cells #[.int .i64 cel, .int .i64 dst, .bool srv, .bool flt] 40)) W → Calls Try.prog 33 #[.agg #[.int .i64 cel, .int .i64 dst, .bool srv, .bool flt]] W fun e w' => e = .returned (.bool x) ∧ Below (w.heap.size + 1) (w.alloc (.cells #[.int .i64 cel, .int .i64 dst, .bool srv, .bool flt] 40)) w') := Lib.hid (fun W hW => (HF.out W).mono fun e w' h => ⟨h.1, hW.trans (h.2.mono (by have := hW.size; omega))⟩)
  have HG1 : Hid (∀ W, Below (w.heap.size + 1) (w.alloc (.cells #[.int .i64 cel, .int .i64 dst, .bool srv, .bool flt] 40)) W → Calls Try.prog 38 #[.int .i64 cel] W fun e w' => e = .returned (.agg #[.int .i64 cel, .int .i64 (-1), .bool false, .bool false]) ∧ Below (w.heap.size + 1) (w.alloc (.cells #[.int .i64 cel, .int .i64 dst, .bool srv, .bool flt] 40)) w') := Lib.hid (fun W hW => (HG.out W).mono fun e w' h => ⟨h.1, hW.trans (h.2.mono (by have := hW.size; omega))⟩)
  have hb0 : Below (w.heap.size + 1) (w.alloc (.cells #[.int .i64 cel, .int .i64 dst, .bool srv, .bool flt] 40)) (w.alloc (.cells #[.int .i64 cel, .int .i64 dst, .bool srv, .bool flt] 40)) := Below.refl _ _
  obtain ⟨x0, x1, x2, x3⟩ := HK.out _ hb0
  clear HF HG HX HQ HE HB s1
  rcases x with _ | _
  · go_enter Try.func39, Try.ntmps39
    go_wp2_with fail
    generalize w.alloc (.cells #[.int .i64 cel, .int .i64 dst, .bool srv, .bool flt] 40) = w1 at *
    rename_i Q1 K1 hK1
    refine wp_region_noPanic ?_
    refine wp_region_held_drew (S := fun W => W.cell? ⟨w.heap.size, 0, none⟩ = some (.int .i64 cel) ∧ W.cell? ⟨w.heap.size, 1, none⟩ = some (.int .i64 dst) ∧ W.cell? ⟨w.heap.size, 2, none⟩ = some (.bool srv) ∧ W.cell? ⟨w.heap.size, 3, none⟩ = some (.bool flt)) (by kernel_rfl) (HK.out _ (by repeat (first | assumption | (with_reducible refine Below.drew ?_)))) (fun hHeld => ?_)
    refine wpAnyH_take (i := 0) (oi := { dst := some 3, op := Op.load 40 (Operand.tmp 1), type := 40, pos := "plant.go:24", after := #[], guard := none }) (v := ?v0) rfl (by kernel_rfl) (by kernel_rfl) (by kernel_rfl) (fun _ _ _ h => h) (Or.inl ⟨by rfl, ?hy0⟩) (by assumption) ?rest0
    case hy0 => ((intro w hSw; (try dsimp only at hSw); go_simp) <;> (with_reducible rfl))
    try simp only [Act.put, List.setIfInBounds_toArray, List.set_cons_zero, List.set_cons_succ]
    refine wpAnyH_ready (rs := [1]) (by kernel_rfl) (by simp) ?_
    refine (AllReadyH.cons (o := { dst := some 4, op := Op.call { callee := Callee.value (Operand.func 33), args := #[Operand.tmp 3], argTypes := #[40] }, type := 4, pos := "plant.go:24", after := #[{ on := 0, ground := Ground.data }], guard := none }) rfl (fun K hK => ?_) AllReadyH.nil)
    go_simp
    (go_at_call 33; refine (HF1.out _ (by repeat (first | assumption | (with_reducible refine Below.drew ?_)))).mono ?_; rintro e w2 ⟨rfl, hb2⟩)
    go_wp2_with fail
    refine hK.out _ _ ?_ (fun hHeld => ?_)
    · (try dsimp only)
      exact HK.out _ (by repeat (first | assumption | (with_reducible refine Below.drew ?_)))
    clear hK K
    try simp only [Act.put, List.setIfInBounds_toArray, List.set_cons_zero, List.set_cons_succ]
    refine wpAnyH_take (i := 2) (oi := { dst := some 5, op := Op.move (Operand.tmp 4), type := 4, pos := "plant.go:24", after := #[{ on := 1, ground := Ground.data }, { on := 1, ground := Ground.chain }], guard := none }) (v := ?v1) rfl (by kernel_rfl) (by kernel_rfl) (by kernel_rfl) (fun _ _ _ h => h) (Or.inl ⟨by rfl, ?hy1⟩) (by assumption) ?rest1
    case hy1 => ((intro w hSw; (try dsimp only at hSw); go_simp) <;> (with_reducible rfl))
    try simp only [Act.put, List.setIfInBounds_toArray, List.set_cons_zero, List.set_cons_succ]
    refine wpAnyH_take (i := 3) (oi := { dst := some 6, op := Op.load 40 (Operand.tmp 1), type := 40, pos := "plant.go:24", after := #[{ on := 2, ground := Ground.guard }], guard := some (2, true) }) (v := undef) rfl (by kernel_rfl) (by kernel_rfl) (by kernel_rfl) (fun _ _ _ h => h) (Or.inr ⟨by rfl, rfl⟩) (by assumption) ?_
    try simp only [Act.put, List.setIfInBounds_toArray, List.set_cons_zero, List.set_cons_succ]
    refine wpAnyH_take (i := 4) (oi := { dst := some 7, op := Op.fieldAddr 40 (Operand.tmp 1) 0, type := 0, pos := "plant.go:24", after := #[{ on := 2, ground := Ground.guard }], guard := some (2, true) }) (v := undef) rfl (by kernel_rfl) (by kernel_rfl) (by kernel_rfl) (fun _ _ _ h => h) (Or.inr ⟨by rfl, rfl⟩) (by assumption) ?_
    try simp only [Act.put, List.setIfInBounds_toArray, List.set_cons_zero, List.set_cons_succ]
    refine wpAnyH_take (i := 5) (oi := { dst := some 8, op := Op.load 3 (Operand.tmp 7), type := 3, pos := "plant.go:24", after := #[{ on := 4, ground := Ground.data }, { on := 2, ground := Ground.guard }], guard := some (2, true) }) (v := undef) rfl (by kernel_rfl) (by kernel_rfl) (by kernel_rfl) (fun _ _ _ h => h) (Or.inr ⟨by rfl, rfl⟩) (by assumption) ?_
    try simp only [Act.put, List.setIfInBounds_toArray, List.set_cons_zero, List.set_cons_succ]
    refine wpAnyH_take (i := 6) (oi := { dst := some 9, op := Op.call { callee := Callee.value (Operand.func 38), args := #[Operand.tmp 8], argTypes := #[3] }, type := 40, pos := "plant.go:24", after := #[{ on := 5, ground := Ground.data }, { on := 2, ground := Ground.chain }, { on := 2, ground := Ground.guard }], guard := some (2, true) }) (v := undef) rfl (by kernel_rfl) (by kernel_rfl) (by kernel_rfl) (fun _ _ _ h => h) (Or.inr ⟨by rfl, rfl⟩) (by assumption) ?_
    try simp only [Act.put, List.setIfInBounds_toArray, List.set_cons_zero, List.set_cons_succ]
    refine wpAnyH_take (i := 7) (oi := { dst := some 10, op := Op.binOp BinOp.eql 40 (Operand.tmp 6) (Operand.tmp 9) 40, type := 4, pos := "plant.go:24", after := #[{ on := 3, ground := Ground.data }, { on := 6, ground := Ground.data }, { on := 2, ground := Ground.guard }], guard := some (2, true) }) (v := undef) rfl (by kernel_rfl) (by kernel_rfl) (by kernel_rfl) (fun _ _ _ h => h) (Or.inr ⟨by rfl, rfl⟩) (by assumption) ?_
    try simp only [Act.put, List.setIfInBounds_toArray, List.set_cons_zero, List.set_cons_succ]
    refine wpAnyH_take (i := 8) (oi := { dst := some 11, op := Op.pick (Operand.tmp 5) (Operand.tmp 10) (Operand.const (Value.bool false)), type := 4, pos := "plant.go:24", after := #[{ on := 2, ground := Ground.data }, { on := 7, ground := Ground.data }], guard := none }) (v := ?v2) rfl (by kernel_rfl) (by kernel_rfl) (by kernel_rfl) (fun _ _ _ h => h) (Or.inl ⟨by rfl, ?hy2⟩) (by assumption) ?rest2
    case hy2 => ((intro w hSw; (try dsimp only at hSw); go_simp) <;> (with_reducible rfl))
    try simp only [Act.put, List.setIfInBounds_toArray, List.set_cons_zero, List.set_cons_succ]
    refine wpAnyH_take (i := 9) (oi := { dst := some 2, op := Op.assign (Operand.tmp 11), type := 4, pos := "plant.go:24", after := #[{ on := 8, ground := Ground.data }, { on := 6, ground := Ground.chain }, { on := 0, ground := Ground.phase }, { on := 1, ground := Ground.phase }, { on := 2, ground := Ground.phase }, { on := 3, ground := Ground.phase }, { on := 4, ground := Ground.phase }, { on := 5, ground := Ground.phase }, { on := 6, ground := Ground.phase }, { on := 7, ground := Ground.phase }, { on := 8, ground := Ground.phase }], guard := none }) (v := ?v3) rfl (by kernel_rfl) (by kernel_rfl) (by kernel_rfl) (fun _ _ _ h => h) (Or.inl ⟨by rfl, ?hy3⟩) (by assumption) ?rest3
    case hy3 => ((intro w hSw; (try dsimp only at hSw); go_simp) <;> (with_reducible rfl))
    try simp only [Act.put, List.setIfInBounds_toArray, List.set_cons_zero, List.set_cons_succ]
    refine wpAnyH_done (by kernel_rfl) ?_ _
    refine NoPanic.normal ?_
    show K1 _ _
    refine hK1 _ _ ?_
    go_wp2
    go_ret
    exact ⟨rfl, HEnd.out _ (by assumption)⟩
  · go_enter Try.func39, Try.ntmps39
    go_wp2_with fail
    generalize w.alloc (.cells #[.int .i64 cel, .int .i64 dst, .bool srv, .bool flt] 40) = w1 at *
    go_region_held3 (fun W => W.cell? ⟨w.heap.size, 0, none⟩ = some (.int .i64 cel) ∧ W.cell? ⟨w.heap.size, 1, none⟩ = some (.int .i64 dst) ∧ W.cell? ⟨w.heap.size, 2, none⟩ = some (.bool srv) ∧ W.cell? ⟨w.heap.size, 3, none⟩ = some (.bool flt)) (exact HK.out _ (by repeat (first | assumption | (with_reducible refine Below.drew ?_)))) (first | (go_at_call 33; refine (HF1.out _ (by repeat (first | assumption | (with_reducible refine Below.drew ?_)))).mono ?_; rintro e w2 ⟨rfl, hb2⟩) | (go_at_call 38; refine (HG1.out _ (by repeat (first | assumption | (with_reducible refine Below.drew ?_)))).mono ?_; rintro e w3 ⟨rfl, hb3⟩))
    all_goals (try go_wp2)
    all_goals go_ret
    all_goals exact ⟨rfl, HEnd.out _ (by assumption)⟩
end Go.Proofs.Ytjbhmeeebacnpaa

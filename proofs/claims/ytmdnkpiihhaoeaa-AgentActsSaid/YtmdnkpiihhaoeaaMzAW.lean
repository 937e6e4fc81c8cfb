/- Joined texts. -/
import Derived.Test.YtmdnkpiihhaoeaaMzAU
import Derived.Test.YtmdnkpiihhaoeaaMzAV
import Derived.Test.YtmdnkpiihhaoeaaMzAR
import Derived.BigQuiet
import Derived.Deep.RegionHeld3
import Derived.Deep.DeepCutAuto
namespace Go.Proofs.Ytmdnkpiihhaoeaa
open Go Go.RowKit Fl

abbrev AV (a : AgtD) : Value := .agg #[.int .u64 a.las, .int .i64 a.dst, .bool a.srv, .int .i64 a.rpt, .int .i64 a.cel]
abbrev AC (a : AgtD) : Array Value := #[.int .u64 a.las, .int .i64 a.dst, .bool a.srv, .int .i64 a.rpt, .int .i64 a.cel]
/-- Block b holds an agent. -/
def AgAt (w : World) (b : Nat) (a : AgtD) : Prop := w.heap[b]? = some (.cells (AC a) 32 (0, 0))
theorem AgAt.new (w : World) (a : AgtD) : AgAt (w.alloc (.cells (AC a) 32)) w.heap.size a := heap_alloc_new w _
theorem AgAt.keep {w w' : World} {b : Nat} {a : AgtD} (h : AgAt w b a) (hb : Below w.heap.size w w') : AgAt w' b a := (hb.block b (block_lt h)).trans h
theorem AgAt.grown {w w' : World} {b : Nat} {a : AgtD} {row : Option Nat} (h : AgAt w b a) (hg : w.grownBy w' row) (hr : row ≠ some b) : AgAt w' b a := (hg.block b (block_lt h) (fun e => hr e.symm)).trans h
theorem AgAt.cell {w : World} {b : Nat} {a : AgtD} (h : AgAt w b a) : w.cell? ⟨b, 0, none⟩ = some (.int .u64 a.las) ∧ w.cell? ⟨b, 1, none⟩ = some (.int .i64 a.dst) ∧ w.cell? ⟨b, 2, none⟩ = some (.bool a.srv) ∧ w.cell? ⟨b, 3, none⟩ = some (.int .i64 a.rpt) ∧ w.cell? ⟨b, 4, none⟩ = some (.int .i64 a.cel) := by
  unfold AgAt at h
  refine ⟨?_, ?_, ?_, ?_, ?_⟩ <;> rw [cell_of_row w b _ _ _ (0, 0) h] <;> rfl
theorem AgAt.frozen {w : World} {b : Nat} {a : AgtD} (h : AgAt w b a) (i : Nat) : w.frozen? ⟨b, i, none⟩ = false := by
  unfold AgAt at h
  simp [World.frozen?, h]
theorem AgAt.put5 {w : World} {b : Nat} {g : AgtD} (h : AgAt w b g) (a : AgtD) : AgAt (((((w.setCell ⟨b, 0, none⟩ (.int .u64 a.las)).setCell ⟨b, 1, none⟩ (.int .i64 a.dst)).setCell ⟨b, 2, none⟩ (.bool a.srv)).setCell ⟨b, 3, none⟩ (.int .i64 a.rpt)).setCell ⟨b, 4, none⟩ (.int .i64 a.cel)) b a := by
  unfold AgAt at h ⊢
  simp [World.setCell, Array.getElem?_modify, h]
theorem AgAt.far {w : World} {b X i : Nat} {a : AgtD} {v : Value} (h : AgAt w b a) (hX : X ≠ b) : AgAt (w.setCell ⟨X, i, none⟩ v) b a := (Below.heap_setCell w ⟨X, i, none⟩ v b (fun e => hX e.symm)).trans h
theorem eq_ag (f g : AgtD) (W : World) : (Op.equalIn 10000 32 (AV f) (AV g)).run Try.prog W = .ok (decide (f = g)) W := by
  have hz := Try.underlying32
  rw [run_equalIn_agg W 9999 _ _ _ (by kernel_rfl) (by kernel_rfl)]
  simp only [Program.fieldsOf, hz]
  simp [go_sem]
  obtain ⟨a0, a1, a2, a3, a4⟩ := f
  obtain ⟨b0, b1, b2, b3, b4⟩ := g
  simp only [AgtD.mk.injEq]
  by_cases h0 : a0 = b0 <;> by_cases h1 : a1 = b1 <;> by_cases h2 : a2 = b2 <;> by_cases h3 : a3 = b3 <;> by_cases h4 : a4 = b4 <;> simp [h0, h1, h2, h3, h4]
theorem guard_ag (op : BinOp) (x y : Operand) (xs ys : Array Value) (W : World) : (eqGuard op 32 x y (.agg xs) (.agg ys)).run Try.prog W = .ok () W := run_eqGuard_agg W _ _ _ _ _ _ (by kernel_rfl)
/-- A slice that is returned holds these frames, in a block of its own. -/
def FrsR (w : World) (base : Nat) (v : Value) (l : List FrD) : Prop := OwnFr w base v l
theorem FrsR.keep {w w' : World} {base : Nat} {v : Value} {l : List FrD} (h : FrsR w base v l) (hb : Below w.heap.size w w') : FrsR w' base v l := OwnFr.keep h hb
theorem FrsR.low {w : World} {base b2 : Nat} {v : Value} {l : List FrD} (h : FrsR w base v l) (hb : b2 ≤ base) : FrsR w b2 v l := ownsRow_base h hb
theorem FrsR.far {w w' : World} {base X : Nat} {v : Value} {l : List FrD} (h : FrsR w base v l) (hg : w.grownBy w' (some X)) (hX : X < base) : FrsR w' base v l := own_farF h hg hX
theorem FrsR.nil (w : World) (base : Nat) : FrsR w base (.slice none 0 0) [] := own_nilF _ _
theorem FrsR.one {w : World} {g base : Nat} {f : FrD} (h : FrAt w g f) (hb : base ≤ g) : FrsR w base (.slice (some ⟨g, 0, none⟩) 1 1) [f] :=
  ⟨by simp [frC_length], .inr ⟨g, 1, FC f, rfl, hb, h, Nat.le_refl 1, by unfold maxLen; omega, rfl, rfl⟩⟩
theorem FrsR.form {w : World} {base : Nat} {v : Value} {l : List FrD} (h : FrsR w base v l) : ∃ A c, v = .slice A l.length c ∧ Holds w A (frC l) := by
  obtain ⟨A, c, h1, h2, h3⟩ := own_frs h
  exact ⟨A, c, h1, h3⟩
theorem FrsR.drew {w : World} {base : Nat} {v : Value} {l : List FrD} (h : FrsR w base v l) : FrsR w.drew base v l := h.keep (Below.refl _ _).drew
def AFPost (w : World) (a : AgtD) (l : List FrD) (e : Ending) (w' : World) : Prop := ∃ v, e = .returned (.tuple #[AV a, v]) ∧ FrsR w' w.heap.size v l ∧ Below w.heap.size w w'
def ABFPost (w : World) (a : AgtD) (b : BodD) (l : List FrD) (e : Ending) (w' : World) : Prop := ∃ v, e = .returned (.tuple #[AV a, BV b, v]) ∧ FrsR w' w.heap.size v l ∧ Below w.heap.size w w'
def FPost (w : World) (l : List FrD) (e : Ending) (w' : World) : Prop := ∃ v, e = .returned v ∧ FrsR w' w.heap.size v l ∧ Below w.heap.size w w'
theorem results_ag1 {fn : Func} {p : Tmp} (h : fn.results = #[.cell p 32]) (tmps : Array Value) (w : World) (g : Nat) (a : AgtD)
    (hp : tmps.getD p undef = .pointer (some ⟨g, 0, none⟩)) (hg : AgAt w g a) : (results fn tmps).run Try.prog w = .ok (AV a) w := by
  have hp' : tmps[p]?.getD undef = .pointer (some ⟨g, 0, none⟩) := by simpa using hp
  simp [results, h, hp', asAddr, run_loadVar_row w g 32 32 (AC a) (0, 0) _ hg Try.underlying32 rfl (by kernel_rfl)]
theorem results_ag {fn : Func} {p q : Tmp} (h : fn.results = #[.cell p 32, .tmp q]) (tmps : Array Value) (w : World) (g : Nat) (a : AgtD) (u : Value)
    (hp : tmps.getD p undef = .pointer (some ⟨g, 0, none⟩)) (hg : AgAt w g a) (hu : tmps.getD q undef = u) :
    (results fn tmps).run Try.prog w = .ok (.tuple #[AV a, u]) w := by
  have hp' : tmps[p]?.getD undef = .pointer (some ⟨g, 0, none⟩) := by simpa using hp
  have hu' : tmps[q]?.getD undef = u := by simpa using hu
  simp [results, h, hp', hu', asAddr, run_loadVar_row w g 32 32 (AC a) (0, 0) _ hg Try.underlying32 rfl (by kernel_rfl)]
theorem results_agb {fn : Func} {p q r : Tmp} (h : fn.results = #[.cell p 32, .cell q 34, .tmp r]) (tmps : Array Value) (w : World) (g k : Nat) (a : AgtD) (b : BodD) (u : Value)
    (hp : tmps.getD p undef = .pointer (some ⟨g, 0, none⟩)) (hg : AgAt w g a) (hq : tmps.getD q undef = .pointer (some ⟨k, 0, none⟩)) (hk : BodAt w k b) (hu : tmps.getD r undef = u) :
    (results fn tmps).run Try.prog w = .ok (.tuple #[AV a, BV b, u]) w := by
  have hp' : tmps[p]?.getD undef = .pointer (some ⟨g, 0, none⟩) := by simpa using hp
  have hq' : tmps[q]?.getD undef = .pointer (some ⟨k, 0, none⟩) := by simpa using hq
  have hu' : tmps[r]?.getD undef = u := by simpa using hu
  simp [results, h, hp', hq', hu', asAddr, run_loadVar_row w g 32 32 (AC a) (0, 0) _ hg Try.underlying32 rfl (by kernel_rfl), run_loadVar_row w k 34 34 (BC b) (0, 0) _ hk Try.underlying34 rfl (by kernel_rfl)]
end Go.Proofs.Ytmdnkpiihhaoeaa
namespace Go.Proofs.Ytmdnkpiihhaoeaa
open Go Go.RowKit Fl

/-- Block b collects frames: none yet; one. -/
def An0 (w : World) (b : Nat) : Prop := w.heap[b]? = some (.cells #[.slice none 0 0] 72 (0, 0))
def An1 (w : World) (b base : Nat) (f : FrD) : Prop := ∃ A c, w.heap[b]? = some (.cells #[.slice A 1 c] 72 (0, 0)) ∧ OwnFr w base (.slice A 1 c) [f]
theorem An0.keep {w w' : World} {b : Nat} (h : An0 w b) (hb : Below w.heap.size w w') : An0 w' b := (hb.block b (block_lt h)).trans h
theorem An1.keep {w w' : World} {b base : Nat} {f : FrD} (h : An1 w b base f) (hb : Below w.heap.size w w') : An1 w' b base f := by
  obtain ⟨A, c, h1, h2⟩ := h
  exact ⟨A, c, (hb.block b (block_lt h1)).trans h1, h2.keep hb⟩
theorem An1.low {w : World} {b base b2 : Nat} {f : FrD} (h : An1 w b base f) (hb : b2 ≤ base) : An1 w b b2 f := by
  obtain ⟨A, c, h1, h2⟩ := h
  exact ⟨A, c, h1, ownsRow_base h2 hb⟩
theorem An1.far {w w' : World} {b base X : Nat} {f : FrD} (h : An1 w b base f) (hg : w.grownBy w' (some X)) (hX : X < base) (hb : X ≠ b) : An1 w' b base f := by
  obtain ⟨A, c, h1, h2⟩ := h
  exact ⟨A, c, (hg.block b (block_lt h1) (fun e => by injection e with e; exact hb e.symm)).trans h1, own_farF h2 hg hX⟩
def AnsPost (b : Nat) (f : FrD) (w : World) (e : Ending) (w' : World) : Prop := e = .returned (.tuple #[]) ∧ An1 w' b w.heap.size f ∧ w.grownBy w' (some b)
theorem grown_put {w w' : World} {b i : Nat} {v : Value} {B : Nat} (h : Below B w w') (hB : w.heap.size ≤ B) : w.grownBy (w'.setCell ⟨b, i, none⟩ v) (some b) :=
  ⟨h.os, h.tape, h.output, by simpa [World.setCell] using h.size, fun k hk hne => (Below.heap_setCell w' ⟨b, i, none⟩ v k (fun e => hne (by rw [e]))).trans (h.block k (by omega))⟩
theorem grown_after {w w1 w2 : World} {b : Nat} (h : Below w.heap.size w w1) (hg : w1.grownBy w2 (some b)) : w.grownBy w2 (some b) :=
  ⟨hg.os.trans h.os, hg.tape.trans h.tape, hg.output.trans h.output, Nat.le_trans h.size hg.size, fun k hk hne => (hg.block k (Nat.lt_of_lt_of_le hk h.size) hne).trans (h.block k hk)⟩
theorem grown_then {w w1 w2 : World} {b : Nat} (hg : w.grownBy w1 (some b)) (h : Below w1.heap.size w1 w2) : w.grownBy w2 (some b) :=
  ⟨h.os.trans hg.os, h.tape.trans hg.tape, h.output.trans hg.output, Nat.le_trans hg.size h.size, fun k hk hne => (h.block k (Nat.lt_of_lt_of_le hk hg.size)).trans (hg.block k hk hne)⟩
set_option maxRecDepth 100000 in
set_option maxHeartbeats 1000000 in
theorem answer_c (b : Nat) (f : FrD) (w : World) (hb : An0 w b) : Calls Try.prog 117 #[.pointer (some ⟨b, 0, none⟩), FV f] w (AnsPost b f w) := by
  have HB0 : Hid (Below w.heap.size w (w.alloc (.cells (FC f) 36))) := Lib.hid (below_newF w _)
  have HF0 := Lib.hid (FrAt.new w f)
  have HA0 := Lib.hid (hb.keep HB0.out)
  have hbl := block_lt hb
  have s1 : (w.alloc (.cells (FC f) 36)).heap.size = w.heap.size + 1 := by simp
  clear hb
  obtain ⟨kind, robot, seq, cell, flag⟩ := f
  go_enter Try.func117, Try.ntmps117
  go_upto_region 1 with fail
  have hq : w.heap.size < (w.alloc (.cells (FC ⟨kind, robot, seq, cell, flag⟩) 36)).heap.size := by omega
  generalize w.alloc (.cells (FC ⟨kind, robot, seq, cell, flag⟩) 36) = w0 at *
  clear s1
  have HQ : Hid (∀ W, Below w0.heap.size w0 W → Below w0.heap.size w0 (W.alloc (.cells (FC ⟨kind, robot, seq, cell, flag⟩) 36))) := Lib.hid (fun W hW => hW.alloc hW.size _)
  have HS : Hid (∀ W, Below w0.heap.size w0 W → (W.cell? ⟨b, 0, none⟩ = some (.slice none 0 0) ∧ W.frozen? ⟨b, 0, none⟩ = false) ∧ W.cell? ⟨w.heap.size, 0, none⟩ = some (.int .i64 kind) ∧ W.cell? ⟨w.heap.size, 1, none⟩ = some (.int .i64 robot) ∧ W.cell? ⟨w.heap.size, 2, none⟩ = some (.int .u64 seq) ∧ W.cell? ⟨w.heap.size, 3, none⟩ = some (.int .i64 cell) ∧ W.cell? ⟨w.heap.size, 4, none⟩ = some (.int .i64 flag)) := Lib.hid (fun W hW => by
    have hx : W.heap[b]? = _ := HA0.out.keep hW
    exact ⟨⟨by rw [cell_of_row W b _ _ _ (0, 0) hx]; rfl, by simp [World.frozen?, hx]⟩, (FrAt.keep HF0.out hW).cell⟩)
  have hb0 : Below w0.heap.size w0 w0 := Below.refl _ _
  have hbd : Below w0.heap.size w0 w0.drew := (Below.refl _ _).drew
  have hbq : Below w0.heap.size w0 (w0.alloc (.cells (FC ⟨kind, robot, seq, cell, flag⟩) 36)).drew := (HQ.out _ hb0).drew
  have HBd := Lib.hid hbd
  obtain ⟨⟨p0, p1⟩, p2, p3, p4, p5, p6⟩ := HS.out _ hbd
  obtain ⟨⟨q0, q1⟩, q2, q3, q4, q5, q6⟩ := HS.out _ hbq
  go_region_law (first | (refine step_frames w0 _ (by rfl) _ _ (by rfl) (.slice none 0 0) [] (by rfl) (own_nilF _ _) _ [⟨kind, robot, seq, cell, flag⟩] (by rfl) (arg_box (FrAt.new _ _) 1) 1 rfl (by decide) hbq ?_; intro A7 c7 w8 hc7 hO7 hb8; have HO7 := Lib.hid hO7; have HB8 := Lib.hid hb8; have r0 := (HS.out _ hb8).1.1; have r1 := (HS.out _ hb8).1.2; clear hO7 hb8))
  all_goals (go_wp2_with fail)
  all_goals
    refine bodyPost_ret (results_none rfl _ _ _) rfl ?_
    have hh := ownsRow_base (own_farF HO7.out (grown_put (b := b) (i := 0) (v := .slice A7 1 c7) (Below.refl w8.heap.size w8) (Nat.le_refl _)) (by omega)) (Nat.le_of_lt hq)
    have hx : w8.heap[b]? = _ := (HB8.out.block b (block_lt HA0.out)).trans HA0.out
    exact ⟨rfl, ⟨A7, c7, by simp [World.setCell, Array.getElem?_modify, hx], hh⟩, grown_put (HB0.out.trans (HB8.out.mono HB0.out.size)) (Nat.le_refl _)⟩
theorem meth_answer (a : Addr) (w : World) : (method 256 75 (.pointer (some a)) "blockway/agent.answer").run Try.prog w = .ok (117, .pointer (some a)) w := by kernel_rfl
set_option maxRecDepth 100000 in
set_option maxHeartbeats 1000000 in
theorem sendReport_c (a : AgtD) (r : Int) (b : Nat) (w : World) (hb : An0 w b) : Calls Try.prog 34 #[AV a, .int .i64 r, .iface 75 (.pointer (some ⟨b, 0, none⟩))] w (AnsPost b (repF a r) w) := by
  have HB0 : Hid (Below w.heap.size w (w.alloc (.cells (AC a) 32))) := Lib.hid (below_newF w _)
  have HA0 := Lib.hid (hb.keep HB0.out)
  have HC := Lib.hid (answer_c b (repF a r) _ HA0.out)
  obtain ⟨las, dst, srv, rpt, cel⟩ := a
  clear hb
  have hm := meth_answer
  go_enter Try.func34, Try.ntmps34
  go_wp2_with fail
  refine HC.out.mono ?_
  rintro e w2 ⟨rfl, h1, hg⟩
  have H1 := Lib.hid h1
  have HG := Lib.hid (grown_after HB0.out hg)
  clear h1 hg HC
  go_wp2
  refine bodyPost_ret (results_none rfl _ _ _) rfl ?_
  exact ⟨rfl, H1.out.low HB0.out.size, HG.out⟩
def put5A (w : World) (X : Nat) (a : AgtD) : World := ((((w.setCell ⟨X, 0, none⟩ (.int .u64 a.las)).setCell ⟨X, 1, none⟩ (.int .i64 a.dst)).setCell ⟨X, 2, none⟩ (.bool a.srv)).setCell ⟨X, 3, none⟩ (.int .i64 a.rpt)).setCell ⟨X, 4, none⟩ (.int .i64 a.cel)
theorem put5A_grown (w : World) (X : Nat) (a : AgtD) : w.grownBy (put5A w X a) (some X) := by
  have h1 : ∀ (a : World) (i : Nat) (v : Value), a.grownBy (a.setCell ⟨X, i, none⟩ v) (some X) := fun a i v => grown_put (Below.refl a.heap.size a) (Nat.le_refl _)
  have h2 : ∀ a b c : World, a.grownBy b (some X) → b.grownBy c (some X) → a.grownBy c (some X) := fun a b c h k => ⟨k.os.trans h.os, k.tape.trans h.tape, k.output.trans h.output, Nat.le_trans h.size k.size, fun i hi hn => (k.block i (Nat.lt_of_lt_of_le hi h.size) hn).trans (h.block i hi hn)⟩
  exact h2 _ _ _ (h2 _ _ _ (h2 _ _ _ (h2 _ _ _ (h1 _ _ _) (h1 _ _ _)) (h1 _ _ _)) (h1 _ _ _)) (h1 _ _ _)
theorem put5A_below {B X : Nat} {w w' : World} {a : AgtD} (h : Below B w w') (hX : B ≤ X) : Below B w (put5A w' X a) :=
  below_put (below_put (below_put (below_put (below_put h hX) hX) hX) hX) hX
/-- A block that was not there is written behind a call that wrote into block b. -/
theorem grown_over {w w' w'' : World} {b X : Nat} (h : w.grownBy w' (some b)) (k : w'.grownBy w'' (some X)) (hX : w.heap.size ≤ X) : w.grownBy w'' (some b) :=
  ⟨k.os.trans h.os, k.tape.trans h.tape, k.output.trans h.output, Nat.le_trans h.size k.size, fun i hi hn => (k.block i (Nat.lt_of_lt_of_le hi h.size) (fun e => by injection e with e; omega)).trans (h.block i hi hn)⟩
/-- A report is set, and sent. -/
def RptPost (b : Nat) (a : AgtD) (r : Int) (w : World) (e : Ending) (w' : World) : Prop := e = .returned (AV a) ∧ An1 w' b w.heap.size (repF a r) ∧ w.grownBy w' (some b)
set_option maxRecDepth 100000 in
set_option maxHeartbeats 1000000 in
theorem reported_c (a : AgtD) (r k c : Int) (b : Nat) (w : World) (hb : An0 w b) : Calls Try.prog 37 #[AV a, .int .i64 r, .int .i64 k, .int .i64 c, .iface 75 (.pointer (some ⟨b, 0, none⟩))] w (RptPost b ⟨a.las, a.dst, a.srv, k, c⟩ r w) := by
  have HB0 : Hid (Below w.heap.size w ((w.alloc (.cells (AC ⟨a.las, a.dst, a.srv, k, c⟩) 32)).alloc (.cells (AC ⟨0, 0, false, 0, 0⟩) 32))) := Lib.hid ((below_newF w _).alloc (by simp) _)
  have HA0 := Lib.hid (hb.keep HB0.out)
  have HX := Lib.hid (show AgAt ((w.alloc (.cells (AC ⟨a.las, a.dst, a.srv, k, c⟩) 32)).alloc (.cells (AC ⟨0, 0, false, 0, 0⟩) 32)) w.heap.size ⟨a.las, a.dst, a.srv, k, c⟩ from (AgAt.new w _).keep (below_newF _ _))
  have HY : Hid (AgAt ((w.alloc (.cells (AC ⟨a.las, a.dst, a.srv, k, c⟩) 32)).alloc (.cells (AC ⟨0, 0, false, 0, 0⟩) 32)) (w.heap.size + 1) ⟨0, 0, false, 0, 0⟩) := Lib.hid (by
    have h := AgAt.new (w.alloc (.cells (AC ⟨a.las, a.dst, a.srv, k, c⟩) 32)) ⟨0, 0, false, 0, 0⟩
    rw [show (w.alloc (.cells (AC ⟨a.las, a.dst, a.srv, k, c⟩) 32)).heap.size = w.heap.size + 1 by simp] at h
    exact h)
  have HC := Lib.hid (sendReport_c ⟨a.las, a.dst, a.srv, k, c⟩ r b _ HA0.out)
  have hbl := block_lt hb
  obtain ⟨las, dst, srv, rpt, cel⟩ := a
  clear hb
  go_enter Try.func37, Try.ntmps37
  go_wp2_with fail
  refine HC.out.mono ?_
  rintro e w2 ⟨rfl, h1, hg⟩
  have H1 := Lib.hid h1
  have HG := Lib.hid (grown_after HB0.out hg)
  have HX2 := Lib.hid (AgAt.grown HX.out hg (fun e => by injection e with e; omega))
  have HY2 := Lib.hid (AgAt.grown HY.out hg (fun e => by injection e with e; omega))
  obtain ⟨x0, x1, x2, x3, x4⟩ := HX2.out.cell
  obtain ⟨y0, y1, y2, y3, y4⟩ := HY2.out.cell
  have yf := HY2.out.frozen
  have HZ := Lib.hid (HY2.out.put5 ⟨las, dst, srv, k, c⟩)
  have h1b : w.heap.size + 1 ≠ b := by omega
  clear h1 hg HC HX HY HB0 HA0
  go_wp2
  refine bodyPost_ret (results_ag1 rfl _ _ _ ⟨las, dst, srv, k, c⟩ rfl HZ.out) rfl ⟨rfl, ?_, ?_⟩
  · exact (H1.out.far (put5A_grown w2 (w.heap.size + 1) ⟨las, dst, srv, k, c⟩) (by simp) h1b).low (by simp; omega)
  · exact grown_over HG.out (put5A_grown w2 (w.heap.size + 1) ⟨las, dst, srv, k, c⟩) (by omega)
end Go.Proofs.Ytmdnkpiihhaoeaa
namespace Go.Proofs.Ytmdnkpiihhaoeaa
open Go Go.RowKit Fl

abbrev SV (s : SndD) : Value := .agg #[.int .u64 s.seq, .bool s.isOpen, .int .i64 s.cell, .int .i64 s.flag]
abbrev SC (s : SndD) : Array Value := #[.int .u64 s.seq, .bool s.isOpen, .int .i64 s.cell, .int .i64 s.flag]
def OffPost (s : SndD) (c f : Int) (w : World) (e : Ending) (w' : World) : Prop := e = .returned (.tuple #[SV (offS s c f), .int .i64 (offE s c f)]) ∧ Below w.heap.size w w'
def OutPost (s : SndD) (r : Int) (w : World) (e : Ending) (w' : World) : Prop := e = .returned (.tuple #[FV (outF s r), .bool s.isOpen]) ∧ Below w.heap.size w w'
def ConfPost (s : SndD) (q : Int) (w : World) (e : Ending) (w' : World) : Prop := e = .returned (.tuple #[SV (confS s q), .bool (confB s q)]) ∧ Below w.heap.size w w'
theorem fresh_c (a b : Int) (w : World) : Calls Try.prog 50 #[.int .u64 a, .int .u64 b] w fun e w' => e = .returned (.bool (freshB a b)) ∧ w = w' := by
  go_enter Try.func50, Try.ntmps50
  go_wp2
  go_ret
  exact ⟨rfl, rfl⟩
theorem refFresh_c (a b : Int) (w : World) : Calls Try.prog 33 #[.int .u64 a, .int .u64 b] w fun e w' => e = .returned (.bool (freshB a b)) ∧ w = w' := by
  go_enter Try.func33, Try.ntmps33
  go_wp2
  go_ret
  exact ⟨rfl, rfl⟩
theorem results_fr {fn : Func} {p q : Tmp} (h : fn.results = #[.cell p 36, .tmp q]) (tmps : Array Value) (w : World) (g : Nat) (f : FrD) (u : Value)
    (hp : tmps.getD p undef = .pointer (some ⟨g, 0, none⟩)) (hg : FrAt w g f) (hu : tmps.getD q undef = u) :
    (results fn tmps).run Try.prog w = .ok (.tuple #[FV f, u]) w := by
  have hp' : tmps[p]?.getD undef = .pointer (some ⟨g, 0, none⟩) := by simpa using hp
  have hu' : tmps[q]?.getD undef = u := by simpa using hu
  simp [results, h, hp', hu', asAddr, run_loadVar_row w g 36 36 (FC f) (0, 0) _ hg Try.underlying36 rfl (by kernel_rfl)]
theorem two_fr (w : World) (o : Obj) (r : FrD) : FrAt ((w.alloc o).alloc (.cells (FC r) 36)) (w.heap.size + 1) r ∧ Below w.heap.size w ((w.alloc o).alloc (.cells (FC r) 36)) := by
  have := FrAt.new (w.alloc o) r
  rw [show (w.alloc o).heap.size = w.heap.size + 1 by simp] at this
  exact ⟨this, (below_newF w _).alloc (by simp) _⟩
theorem conf_f {s : SndD} {q : Int} (h : s.isOpen = false ∨ q ≠ s.seq) : confB s q = false ∧ confS s q = s := by
  have e : confB s q = false := by
    unfold confB
    rcases h with h | h
    · rw [h]; rfl
    · rw [decide_eq_false h, Bool.and_false]
  exact ⟨e, by unfold confS; rw [e]; rfl⟩
theorem conf_t {s : SndD} {q : Int} (h1 : s.isOpen = true) (h2 : q = s.seq) : confB s q = true ∧ confS s q = ⟨s.seq, false, s.cell, s.flag⟩ := by
  have e : confB s q = true := by unfold confB; rw [h1, decide_eq_true h2]; rfl
  exact ⟨e, by unfold confS; rw [e]; rfl⟩
end Go.Proofs.Ytmdnkpiihhaoeaa
namespace Go.Proofs.Ytmdnkpiihhaoeaa
open Go Go.RowKit Fl

theorem two_ag (w : World) (o : Obj) (a : AgtD) : AgAt ((w.alloc o).alloc (.cells (AC a) 32)) (w.heap.size + 1) a ∧ Below w.heap.size w ((w.alloc o).alloc (.cells (AC a) 32)) := by
  have := AgAt.new (w.alloc o) a
  rw [show (w.alloc o).heap.size = w.heap.size + 1 by simp] at this
  exact ⟨this, (below_newF w _).alloc (by simp) _⟩
set_option maxRecDepth 100000 in
theorem new_c (w : World) : Calls Try.prog 22 #[] w fun e w' => e = .returned (AV newA) ∧ Below w.heap.size w w' := by
  have HX := Lib.hid (AgAt.new w newA)
  have HB := Lib.hid (below_newF w (.cells (AC newA) 32))
  go_enter Try.func22, Try.ntmps22
  go_wp2
  exact bodyPost_ret (results_ag1 rfl _ _ _ newA rfl HX.out) rfl ⟨rfl, HB.out⟩
set_option maxRecDepth 100000 in
theorem refNew_c (w : World) : Calls Try.prog 23 #[] w fun e w' => e = .returned (AV newA) ∧ Below w.heap.size w w' := by
  have HX := Lib.hid (AgAt.new w newA)
  have HB := Lib.hid (below_newF w (.cells (AC newA) 32))
  go_enter Try.func23, Try.ntmps23
  go_wp2
  exact bodyPost_ret (results_ag1 rfl _ _ _ newA rfl HX.out) rfl ⟨rfl, HB.out⟩
set_option maxRecDepth 100000 in
set_option maxHeartbeats 1000000 in
theorem refReport_c (a : AgtD) (r : Int) (w : World) : Calls Try.prog 35 #[AV a, .int .i64 r] w (FPost w [repF a r]) := by
  have HZ := Lib.hid (two_fr w (.cells (AC a) 32) (repF a r))
  obtain ⟨las, dst, srv, rpt, cel⟩ := a
  go_enter Try.func35, Try.ntmps35
  go_wp2
  go_ret
  exact ⟨_, rfl, FrsR.one HZ.out.1 (by omega), HZ.out.2⟩
theorem again_no {a : AgtD} {r : Int} {b : BodD} (h : a.rpt = 0 ∨ b.flt = true) : againL a r b = [] := by
  unfold againL
  rw [if_neg]
  rintro ⟨h1, h2⟩
  rcases h with h | h
  · exact h1 h
  · rw [h] at h2; cases h2
theorem again_yes {a : AgtD} {r : Int} {b : BodD} (h : a.rpt ≠ 0) (h2 : b.flt = false) : againL a r b = [repF a r] := if_pos ⟨h, h2⟩
set_option maxRecDepth 100000 in
set_option maxHeartbeats 1000000 in
theorem refAgain_c (a : AgtD) (r : Int) (b : BodD) (w : World) : Calls Try.prog 17 #[AV a, .int .i64 r, BV b] w (FPost w (againL a r b)) := by
  have HB0 : Hid (Below w.heap.size w ((w.alloc (.cells (AC a) 32)).alloc (.cells (BC b) 34))) := Lib.hid ((below_newF w _).alloc (by simp) _)
  have CR := Lib.hid (fun W => refReport_c a r W)
  have HN := Lib.hid (fun (h : a.rpt = 0 ∨ b.flt = true) => again_no (r := r) h)
  have HY := Lib.hid (fun (h : a.rpt ≠ 0) (h2 : b.flt = false) => again_yes (r := r) h h2)
  generalize againL a r b = L at *
  obtain ⟨las, dst, srv, rpt, cel⟩ := a
  obtain ⟨c2, d2, s2, flt⟩ := b
  by_cases h0 : rpt = 0
  · have HL := Lib.hid (HN.out (.inl h0))
    have h0' : (rpt == 0) = true := by simpa using h0
    clear h0 HN HY
    go_enter Try.func17, Try.ntmps17
    go_wp2
    go_ret
    exact ⟨_, rfl, HL.out ▸ FrsR.nil _ _, HB0.out⟩
  · have h0' : (rpt == 0) = false := by simpa using h0
    rcases flt with _ | _
    · have HL := Lib.hid (HY.out h0 rfl)
      clear h0 HN HY
      go_enter Try.func17, Try.ntmps17
      go_wp2_with fail
      refine (CR.out _).mono ?_
      rintro e w2 ⟨v, rfl, hf, hb⟩
      have HF := Lib.hid (FrsR.low hf HB0.out.size)
      have HB := Lib.hid (HB0.out.trans (hb.mono HB0.out.size))
      clear hf hb CR
      go_wp2
      go_ret
      exact ⟨_, rfl, HL.out ▸ HF.out, HB.out⟩
    · have HL := Lib.hid (HN.out (.inr rfl))
      clear h0 HN HY
      go_enter Try.func17, Try.ntmps17
      go_wp2
      go_ret
      exact ⟨_, rfl, HL.out ▸ FrsR.nil _ _, HB0.out⟩
theorem An0.new (w : World) : An0 (w.alloc (.cells #[.slice none 0 0] 72)) w.heap.size := heap_alloc_new w _
theorem An1.read {w : World} {b base : Nat} {f : FrD} (h : An1 w b base f) : ∃ A c, w.cell? ⟨b, 0, none⟩ = some (.slice A 1 c) ∧ FrsR w base (.slice A 1 c) [f] := by
  obtain ⟨A, c, h1, h2⟩ := h
  exact ⟨A, c, by rw [cell_of_row w b _ _ _ (0, 0) h1]; rfl, h2⟩
set_option maxRecDepth 100000 in
set_option maxHeartbeats 1000000 in
theorem again_c (a : AgtD) (r : Int) (b : BodD) (w : World) : Calls Try.prog 16 #[AV a, .int .i64 r, BV b] w (FPost w (againL a r b)) := by
  have s1 : ((w.alloc (.cells (AC a) 32)).alloc (.cells (BC b) 34)).heap.size = w.heap.size + 1 + 1 := by simp
  have HB0 : Hid (Below w.heap.size w (((w.alloc (.cells (AC a) 32)).alloc (.cells (BC b) 34)).alloc (.cells #[.slice none 0 0] 72))) := Lib.hid (((below_newF w _).alloc (by simp) _).alloc (by omega) _)
  have HA : Hid (An0 (((w.alloc (.cells (AC a) 32)).alloc (.cells (BC b) 34)).alloc (.cells #[.slice none 0 0] 72)) (w.heap.size + 1 + 1)) := Lib.hid (s1 ▸ An0.new _)
  have x0 : (((w.alloc (.cells (AC a) 32)).alloc (.cells (BC b) 34)).alloc (.cells #[.slice none 0 0] 72)).cell? ⟨w.heap.size + 1 + 1, 0, none⟩ = some (.slice none 0 0) := by
    have h : _ = _ := HA.out
    rw [cell_of_row _ _ _ _ _ (0, 0) h]; rfl
  have CR := Lib.hid (sendReport_c a r _ _ HA.out)
  have HN := Lib.hid (fun (h : a.rpt = 0 ∨ b.flt = true) => again_no (r := r) h)
  have HY := Lib.hid (fun (h : a.rpt ≠ 0) (h2 : b.flt = false) => again_yes (r := r) h h2)
  generalize againL a r b = L at *
  obtain ⟨las, dst, srv, rpt, cel⟩ := a
  obtain ⟨c2, d2, s2, flt⟩ := b
  clear s1 HA
  by_cases h0 : rpt = 0
  · have HL := Lib.hid (HN.out (.inl h0))
    have h0' : (rpt != 0) = false := by simpa using h0
    clear h0 HN HY CR
    go_enter Try.func16, Try.ntmps16
    go_wp2
    go_ret
    exact ⟨_, rfl, HL.out ▸ FrsR.nil _ _, HB0.out⟩
  · have h0' : (rpt != 0) = true := by simpa using h0
    rcases flt with _ | _
    · have HL := Lib.hid (HY.out h0 rfl)
      clear h0 HN HY
      go_enter Try.func16, Try.ntmps16
      go_wp2_with fail
      refine CR.out.mono ?_
      rintro e w2 ⟨rfl, h1, hg⟩
      obtain ⟨A, c, z0, hf⟩ := h1.read
      have HF := Lib.hid (FrsR.low hf HB0.out.size)
      have HB := Lib.hid (HB0.out.grown hg (by first | exact HB0.out.size | (have := HB0.out.size; omega)) (fun k hk => by injection hk with hk; omega))
      clear hf h1 hg CR x0
      go_wp2
      go_ret
      exact ⟨_, rfl, HL.out ▸ HF.out, HB.out⟩
    · have HL := Lib.hid (HN.out (.inr rfl))
      clear h0 HN HY CR
      go_enter Try.func16, Try.ntmps16
      go_wp2
      go_ret
      exact ⟨_, rfl, HL.out ▸ FrsR.nil _ _, HB0.out⟩
end Go.Proofs.Ytmdnkpiihhaoeaa
namespace Go.Proofs.Ytmdnkpiihhaoeaa
open Go Go.RowKit Fl

theorem devValid_f (f : FrD) (w : World) : Calls Try.prog 30 #[FV f] w fun e w' => e = .returned (.bool (validF f)) ∧ Below w.heap.size w w' := by
  obtain ⟨z, hz⟩ : ∃ z, errF f = z := ⟨_, rfl⟩
  have CK := Lib.hid (check_z f z hz)
  have hcase := errF_cases f
  rw [hz] at hcase
  have HV : Hid (validF f = decide (z = 0)) := Lib.hid (by unfold validF; rw [hz])
  have HW := Lib.hid (below_newF w (.cells (FC f) 36))
  clear hz
  rcases hcase with rfl | rfl | rfl
  all_goals
    go_enter Try.func30, Try.ntmps30
    go_wp2_with fail
    refine (CK.out _).mono ?_
    rintro e w2 ⟨rfl, hb2⟩
    have HB2 := Lib.hid (HW.out.trans (hb2.mono HW.out.size))
    clear hb2
    go_wp2
    go_ret
    exact ⟨by rw [HV.out]; rfl, HB2.out⟩
def kindB (k : Int) : Bool := decide (k = 1 ∨ k = 2 ∨ k = 3)
theorem refKnown_c (k : Int) (w : World) : Calls Try.prog 51 #[.int .i64 k] w fun e w' => e = .returned (.bool (kindB k)) ∧ w = w' := by
  have hc : k = 1 ∨ k = 2 ∨ k = 3 ∨ (((k == 1) = false ∧ (k == 2) = false ∧ (k == 3) = false) ∧ kindB k = false) := by
    by_cases h : k = 1 ∨ k = 2 ∨ k = 3
    · omega
    · refine .inr (.inr (.inr ⟨⟨?_, ?_, ?_⟩, by simp [kindB, h]⟩)) <;> rw [beq_eq_false_iff_ne] <;> omega
  rcases hc with rfl | rfl | rfl | ⟨⟨k1, k2, k3⟩, hk⟩
  · go_enter Try.func51, Try.ntmps51
    go_wp2
    go_ret
    exact ⟨rfl, rfl⟩
  · go_enter Try.func51, Try.ntmps51
    go_wp2
    go_ret
    exact ⟨rfl, rfl⟩
  · go_enter Try.func51, Try.ntmps51
    go_wp2
    go_ret
    exact ⟨rfl, rfl⟩
  · have HK := Lib.hid hk
    clear hk
    go_enter Try.func51, Try.ntmps51
    go_wp2
    go_ret
    exact ⟨by rw [HK.out]; rfl, rfl⟩
theorem refKnown_k (k : Int) (z : Bool) (h : kindB k = z) (w : World) : Calls Try.prog 51 #[.int .i64 k] w fun e w' => e = .returned (.bool z) ∧ w = w' := by
  have := refKnown_c k w
  rwa [h] at this
/-- What the reference's Valid asks besides the kind and the flag. -/
def partB (f : FrD) : Bool := fromB 0 7 f.robot && decide (1 ≤ f.seq) && fromB 0 47 f.cell && fromB 0 2 f.flag
theorem valid_no {f : FrD} (h : kindB f.kind = false ∨ partB f = false) : validF f = false := by
  unfold validF
  rw [decide_eq_false_iff_not]
  intro he
  obtain ⟨h1, h2⟩ := errF_ok he
  obtain ⟨k0, k1, k2, k3, k4⟩ := okF_bounds h2
  have := lastCell_le f.kind
  have := firstFlag_ge f.kind
  have := lastFlag_le f.kind
  rcases h with h | h
  · unfold kindB at h; simp [h1] at h
  · unfold partB at h
    rw [fromB_iff.2 k1, decide_eq_true k0, fromB_iff.2 ⟨k2.1, by omega⟩, fromB_iff.2 ⟨by omega, by omega⟩] at h
    cases h
theorem valid_yes {f : FrD} (hk : kindB f.kind = true) (hp : partB f = true) : validF f = (if f.kind = 1 then decide (f.flag ≤ 1) else if f.kind = 2 then decide (1 ≤ f.flag) else decide (f.cell = 0)) := by
  unfold partB at hp
  simp only [Bool.and_eq_true, fromB_iff, decide_eq_true_eq] at hp
  obtain ⟨⟨⟨p1, p2⟩, p3⟩, p4⟩ := hp
  have hk' : f.kind = 1 ∨ f.kind = 2 ∨ f.kind = 3 := by simpa [kindB] using hk
  have e1 : validF f = okF f := by
    unfold validF errF
    rw [if_pos hk']
    cases okF f <;> rfl
  rw [e1]
  unfold okF
  rw [decide_eq_true p2, fromB_iff.2 p1, Bool.eq_iff_iff]
  rcases hk' with h | h | h
  all_goals
    rw [h]
    simp [lastCell, firstFlag, lastFlag, fromB_iff]
    omega
set_option maxRecDepth 100000 in
set_option maxHeartbeats 4000000 in
theorem refValid_c (f : FrD) (w : World) : Calls Try.prog 32 #[FV f] w fun e w' => e = .returned (.bool (validF f)) ∧ Below w.heap.size w w' := by
  have HW := Lib.hid (below_newF w (.cells (FC f) 36))
  by_cases hk : kindB f.kind = true
  · have CK := Lib.hid (refKnown_k f.kind true hk)
    by_cases hp : partB f = true
    · have HV := Lib.hid (valid_yes hk hp)
      have hk' : f.kind = 1 ∨ f.kind = 2 ∨ f.kind = 3 := by simpa [kindB] using hk
      unfold partB at hp
      simp only [Bool.and_eq_true, fromB_iff, decide_eq_true_eq] at hp
      obtain ⟨⟨⟨⟨p1, p2⟩, p3⟩, p4, p5⟩, p6, p7⟩ := hp
      obtain ⟨kind, robot, seq, cell, flag⟩ := f
      simp only at *
      have q1 : decide (robot < 0) = false := by simp; omega
      have q2 : decide (8 ≤ robot) = false := by simp; omega
      have q3 : decide (seq < 1) = false := by simp; omega
      have q4 : decide (cell < 0) = false := by simp; omega
      have q5 : decide (48 ≤ cell) = false := by simp; omega
      have q6 : decide (flag < 0) = false := by simp; omega
      have q7 : decide (2 < flag) = false := by simp; omega
      clear hk p1 p2 p3 p4 p5 p6 p7
      rcases hk' with rfl | rfl | rfl
      all_goals
        go_enter Try.func32, Try.ntmps32
        go_wp2_with fail
        refine (CK.out _).mono ?_; rintro e w' ⟨rfl, rfl⟩
        go_wp2
        go_ret
        exact ⟨by rw [HV.out]; first | rfl | (simp; rfl) | simp, HW.out⟩
    · have HV := Lib.hid (valid_no (f := f) (.inr (by simpa using hp)))
      have hp' : ¬ ((0 ≤ f.robot ∧ f.robot ≤ 7) ∧ 1 ≤ f.seq ∧ (0 ≤ f.cell ∧ f.cell ≤ 47) ∧ 0 ≤ f.flag ∧ f.flag ≤ 2) := fun h => hp (by
        unfold partB
        rw [fromB_iff.2 h.1, decide_eq_true h.2.1, fromB_iff.2 h.2.2.1, fromB_iff.2 h.2.2.2]; rfl)
      obtain ⟨kind, robot, seq, cell, flag⟩ := f
      simp only at *
      clear hk hp
      by_cases p1 : robot < 0
      · clear hp'
        go_enter Try.func32, Try.ntmps32
        go_wp2_with fail
        refine (CK.out _).mono ?_; rintro e w' ⟨rfl, rfl⟩
        go_wp2
        go_ret
        exact ⟨by rw [HV.out]; rfl, HW.out⟩
      have q1 : decide (robot < 0) = false := by simpa using p1
      by_cases p2 : 8 ≤ robot
      · clear hp'
        go_enter Try.func32, Try.ntmps32
        go_wp2_with fail
        refine (CK.out _).mono ?_; rintro e w' ⟨rfl, rfl⟩
        go_wp2
        go_ret
        exact ⟨by rw [HV.out]; rfl, HW.out⟩
      have q2 : decide (8 ≤ robot) = false := by simpa using p2
      by_cases p3 : seq < 1
      · clear hp'
        go_enter Try.func32, Try.ntmps32
        go_wp2_with fail
        refine (CK.out _).mono ?_; rintro e w' ⟨rfl, rfl⟩
        go_wp2
        go_ret
        exact ⟨by rw [HV.out]; rfl, HW.out⟩
      have q3 : decide (seq < 1) = false := by simpa using p3
      by_cases p4 : cell < 0
      · clear hp'
        go_enter Try.func32, Try.ntmps32
        go_wp2_with fail
        refine (CK.out _).mono ?_; rintro e w' ⟨rfl, rfl⟩
        go_wp2
        go_ret
        exact ⟨by rw [HV.out]; rfl, HW.out⟩
      have q4 : decide (cell < 0) = false := by simpa using p4
      by_cases p5 : 48 ≤ cell
      · clear hp'
        go_enter Try.func32, Try.ntmps32
        go_wp2_with fail
        refine (CK.out _).mono ?_; rintro e w' ⟨rfl, rfl⟩
        go_wp2
        go_ret
        exact ⟨by rw [HV.out]; rfl, HW.out⟩
      have q5 : decide (48 ≤ cell) = false := by simpa using p5
      by_cases p6 : flag < 0
      · clear hp'
        go_enter Try.func32, Try.ntmps32
        go_wp2_with fail
        refine (CK.out _).mono ?_; rintro e w' ⟨rfl, rfl⟩
        go_wp2
        go_ret
        exact ⟨by rw [HV.out]; rfl, HW.out⟩
      have q6 : decide (flag < 0) = false := by simpa using p6
      have p7 : 2 < flag := by omega
      clear hp'
      go_enter Try.func32, Try.ntmps32
      go_wp2_with fail
      refine (CK.out _).mono ?_; rintro e w' ⟨rfl, rfl⟩
      go_wp2
      go_ret
      exact ⟨by rw [HV.out]; rfl, HW.out⟩
  · have hk' : kindB f.kind = false := by simpa using hk
    have HV := Lib.hid (valid_no (f := f) (.inl hk'))
    have CK := Lib.hid (refKnown_k f.kind false hk')
    obtain ⟨kind, robot, seq, cell, flag⟩ := f
    simp only at *
    clear hk hk'
    go_enter Try.func32, Try.ntmps32
    go_wp2_with fail
    refine (CK.out _).mono ?_; rintro e w' ⟨rfl, rfl⟩
    go_wp2
    go_ret
    exact ⟨by rw [HV.out]; rfl, HW.out⟩
end Go.Proofs.Ytmdnkpiihhaoeaa

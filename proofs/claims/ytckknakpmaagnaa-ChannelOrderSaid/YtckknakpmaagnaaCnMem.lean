/- Lists of frames in memory: cells, append, copy and make. -/
import Derived.Test.YtckknakpmaagnaaCnSpec
import Derived.Test.YtckknakpmaagnaaFrMade
import Derived.Test.YtckknakpmaagnaaFrCmp
import Derived.Laws.AppendOwnNone
import Derived.Laws.CopyOwn
import Derived.Lib.SlBuf
namespace Go.Proofs.Ytckknakpmaagnaa
open Go Go.RowKit Fl

theorem wrap_inF {z : Int} (h : -9223372036854775808 ≤ z ∧ z ≤ 9223372036854775807) : IntKind.i64.wrap z = z := IntWalk.i64_in z ⟨by omega, by omega⟩
/-- The cells of a list of frames. -/
def frC : List FrD → List Value
  | [] => []
  | f :: r => .int .i64 f.kind :: .int .i64 f.robot :: .int .u64 f.seq :: .int .i64 f.cell :: .int .i64 f.flag :: frC r
theorem frC_length : ∀ l : List FrD, (frC l).length = l.length * 5
  | [] => rfl
  | f :: r => by simp [frC, frC_length r]; omega
theorem frC_append : ∀ l m : List FrD, frC (l ++ m) = frC l ++ frC m
  | [], m => rfl
  | f :: r, m => by simp [frC, frC_append r m]
theorem frC_one : ∀ l : List FrD, ∀ u ∈ frC l, u.oneCell' = true
  | [], u, h => by simp [frC] at h
  | f :: r, u, h => by
    simp only [frC, List.mem_cons] at h
    rcases h with rfl | rfl | rfl | rfl | rfl | h
    all_goals first | rfl | exact frC_one r u h
theorem frC_single (f : FrD) : frC [f] = (FC f).toList := rfl
theorem frC_take (l : List FrD) (n : Nat) (h : n ≤ l.length) : (frC l).take (n * 5) = frC (l.take n) := by
  have e : frC l = frC (l.take n) ++ frC (l.drop n) := by rw [← frC_append, List.take_append_drop]
  rw [e, List.take_left' (by rw [frC_length, List.length_take, Nat.min_eq_left h])]
theorem frC_drop (l : List FrD) (n : Nat) (h : n ≤ l.length) : (frC l).drop (n * 5) = frC (l.drop n) := by
  have e : frC l = frC (l.take n) ++ frC (l.drop n) := by rw [← frC_append, List.take_append_drop]
  rw [e, List.drop_left' (by rw [frC_length, List.length_take, Nat.min_eq_left h])]
theorem frC_at {l : List FrD} {k : Nat} (h : k < l.length) : (frC l)[k * 5]? = some (.int .i64 l[k].kind) ∧ (frC l)[k * 5 + 1]? = some (.int .i64 l[k].robot) ∧ (frC l)[k * 5 + 2]? = some (.int .u64 l[k].seq) ∧ (frC l)[k * 5 + 3]? = some (.int .i64 l[k].cell) ∧ (frC l)[k * 5 + 4]? = some (.int .i64 l[k].flag) := by
  have e : frC l = frC (l.take k) ++ frC (l[k] :: l.drop (k + 1)) := by rw [← frC_append, ← List.drop_eq_getElem_cons h, List.take_append_drop]
  have hl : (frC (l.take k)).length = k * 5 := by rw [frC_length, List.length_take, Nat.min_eq_left (by omega)]
  have key : ∀ j, (frC l)[k * 5 + j]? = (frC (l[k] :: l.drop (k + 1)))[j]? := fun j => by
    rw [e, List.getElem?_append_right (by omega), hl, Nat.add_sub_cancel_left]
  exact ⟨key 0, key 1, key 2, key 3, key 4⟩
theorem add_addrF (g o j : Nat) : Addr.add ⟨g, o, none⟩ j = ⟨g, o + j, none⟩ := by
  unfold Addr.add
  split
  · rename_i h; subst h; rfl
  · rfl
theorem Holds.lookF {w : World} {b o : Nat} {xs : List Value} (h : Holds w (some ⟨b, o, none⟩) xs) {j : Nat} {u : Value} (hu : xs[j]? = some u) : w.cell? ⟨b, o + j, none⟩ = some u := by
  obtain ⟨hj, rfl⟩ := List.getElem?_eq_some_iff.1 hu
  obtain ⟨b', o', e, _, hc⟩ := h.at_ (by omega)
  injection e with e
  injection e with e1 e2
  subst e1 e2
  exact hc j hj
/-- What lies below a block stays where nothing below it is written. -/
theorem Holds.keepG {w w' : World} {b o g : Nat} {xs : List Value} (h : Holds w (some ⟨b, o, none⟩) xs) (hb : b < g) (hk : Below g w w') : Holds w' (some ⟨b, o, none⟩) xs := by
  rcases h with h | ⟨b', o', hA, hlt, hc⟩
  · exact .inl h
  · injection hA with hA
    injection hA with h1 h2
    subst h1 h2
    exact .inr ⟨b, o, rfl, Nat.lt_of_lt_of_le hlt hk.size, fun j hj => (hk.cell (p := ⟨b, o + j, none⟩) hb).trans (hc j hj)⟩
/-- The cells of one frame. -/
def FrmIn (w : World) (b o : Nat) (f : FrD) : Prop := w.cell? ⟨b, o, none⟩ = some (.int .i64 f.kind) ∧ w.cell? ⟨b, o + 1, none⟩ = some (.int .i64 f.robot) ∧ w.cell? ⟨b, o + 2, none⟩ = some (.int .u64 f.seq) ∧ w.cell? ⟨b, o + 3, none⟩ = some (.int .i64 f.cell) ∧ w.cell? ⟨b, o + 4, none⟩ = some (.int .i64 f.flag)
theorem holds_frm {w : World} {A : Option Addr} {l : List FrD} (h : Holds w A (frC l)) {k : Nat} (hk : k < l.length) : ∃ b o, A = some ⟨b, o, none⟩ ∧ b < w.heap.size ∧ FrmIn w b (o + k * 5) l[k] := by
  obtain ⟨b, o, hA, hb, _⟩ := h.at_ (by rw [frC_length]; omega)
  subst hA
  obtain ⟨h0, h1, h2, h3, h4⟩ := frC_at hk
  refine ⟨b, o, rfl, hb, h.lookF h0, ?_, ?_, ?_, ?_⟩
  · rw [Nat.add_assoc]; exact h.lookF h1
  · rw [Nat.add_assoc]; exact h.lookF h2
  · rw [Nat.add_assoc]; exact h.lookF h3
  · rw [Nat.add_assoc]; exact h.lookF h4
theorem FrmIn.keep {w w' : World} {b o : Nat} {f : FrD} (h : FrmIn w b o f) (hb : Below w.heap.size w w') : FrmIn w' b o f := by
  have hlt : b < w.heap.size := World.block_lt_of_cell? _ _ h.1
  have k : ∀ j, w'.cell? ⟨b, j, none⟩ = w.cell? ⟨b, j, none⟩ := fun j => hb.cell (p := ⟨b, j, none⟩) hlt
  unfold FrmIn at *
  rw [k, k, k, k, k]; exact h
/-- A slice of frames in memory. -/
def FrsAt (w : World) (v : Value) (l : List FrD) : Prop := ∃ A c, v = .slice A l.length c ∧ l.length ≤ c ∧ Holds w A (frC l)
abbrev OwnFr (w : World) (base : Nat) (v : Value) (l : List FrD) : Prop := w.ownsRow base 25 5 v l.length (frC l)
theorem own_frs {w : World} {base : Nat} {v : Value} {l : List FrD} (h : OwnFr w base v l) : FrsAt w v l := by
  have h0 := h
  obtain ⟨h1, h2⟩ := h
  rcases h2 with ⟨rfl, he⟩ | ⟨g, cap, cur, rfl, _, _, hnc, _⟩
  · refine ⟨none, 0, by rw [he], by omega, ?_⟩
    exact .inl (List.eq_nil_of_length_eq_zero (by rw [h1, he]))
  · exact ⟨_, cap, rfl, hnc, ownsRow_holds h0⟩
theorem FrsAt.keep {w w' : World} {v : Value} {l : List FrD} (h : FrsAt w v l) (hb : Below w.heap.size w w') : FrsAt w' v l := by
  obtain ⟨A, c, h1, h2, h3⟩ := h
  exact ⟨A, c, h1, h2, h3.keep hb⟩
theorem OwnFr.keep {w w' : World} {base : Nat} {v : Value} {l : List FrD} (h : OwnFr w base v l) (hb : Below w.heap.size w w') : OwnFr w' base v l := ownsRow_below h hb
theorem own_ltF {w : World} {base g n c : Nat} {l : List FrD} (h : OwnFr w base (.slice (some ⟨g, 0, none⟩) n c) l) : g < w.heap.size := (World.ownsRow.lt h g rfl).2
theorem own_nilF (w : World) (base : Nat) : OwnFr w base (.slice none 0 0) [] := World.ownsRow_nil _ _ _ _
theorem Try.infoFrm : (Try.prog.info? 25).map (fun i => (i.zero, i.size, i.bytes)) = some (some (.agg #[.int .i64 0, .int .i64 0, .int .u64 0, .int .i64 0, .int .i64 0]), 5, 40) := by kernel_rfl
/-- What is appended: a list of frames in memory, or none. -/
def ArgFr (w : World) (u : Value) (M : List FrD) : Prop := ∃ A c, u = .slice A M.length c ∧ (M = [] ∨ ∃ ad, A = some ad ∧ ∀ j v, (frC M)[j]? = some v → w.cell? (ad.add j) = some v)
theorem arg_part {w : World} {b o : Nat} {l : List FrD} (h : Holds w (some ⟨b, o, none⟩) (frC l)) (i n c : Nat) (hin : i + n ≤ l.length) : ArgFr w (.slice (some ⟨b, o + i * 5, none⟩) n c) ((l.drop i).take n) := by
  have hlen : ((l.drop i).take n).length = n := by rw [List.length_take, List.length_drop]; omega
  refine ⟨_, c, by rw [hlen], .inr ⟨_, rfl, fun j u hu => ?_⟩⟩
  have hpre : (frC l)[i * 5 + j]? = some u := by
    have e1 : frC l = frC (l.take i) ++ frC ((l.drop i).take n) ++ frC ((l.drop i).drop n) := by
      rw [← frC_append, ← frC_append, List.append_assoc, List.take_append_drop, List.take_append_drop]
    have hj := (List.getElem?_eq_some_iff.1 hu).1
    have e2 : (frC (l.take i)).length = i * 5 := by rw [frC_length, List.length_take, Nat.min_eq_left (by omega)]
    rw [e1, List.getElem?_append_left (by rw [List.length_append, e2]; omega), List.getElem?_append_right (by omega), e2, Nat.add_sub_cancel_left]
    exact hu
  have := h.lookF hpre
  rwa [add_addrF, Nat.add_assoc]
theorem arg_all {w : World} {A : Option Addr} {l : List FrD} (h : Holds w A (frC l)) (c : Nat) : ArgFr w (.slice A l.length c) l := by
  rcases l with _ | ⟨f, l⟩
  · exact ⟨A, c, rfl, .inl rfl⟩
  · obtain ⟨b, o, rfl, _, _⟩ := h.at_ (by simp [frC])
    have := arg_part h 0 (f :: l).length c (by simp)
    simpa using this
theorem arg_none (w : World) (A : Option Addr) (c : Nat) : ArgFr w (.slice A 0 c) [] := ⟨A, c, rfl, .inl rfl⟩
theorem arg_box {w : World} {q : Nat} {f : FrD} (h : FrAt w q f) (c : Nat) : ArgFr w (.slice (some ⟨q, 0, none⟩) 1 c) [f] := ⟨_, c, rfl, .inr ⟨_, rfl, fun j u hu => by
  rw [add_addrF, Nat.zero_add, cell_of_row w q j _ _ (0, 0) h, ← Array.getElem?_toList]
  exact hu⟩⟩
theorem run_append_zeroF {P : Program} (w : World) (t ty e : TypeId) (i : TypeInfo) (ht : P.underlying t = some (.slice e)) (hi : P.info? e = some i) (A X : Option Addr) (n c d : Nat) (hnc : n ≤ c) :
    (Builtin.append_ #[t, t] ty #[.slice A n c, .slice X 0 d]).run P w = .ok (.slice A n c) w := by
  cases A <;> cases X <;> simp [Builtin.append_, run_underlying ht, sizeOf, typeInfo, hi, Builtin.lenOf, hnc, Builtin.firstCells, loadCells, loadCellsFrom, storeCells, Result.andThen]
theorem own_form {w : World} {base : Nat} {v : Value} {l : List FrD} (h : OwnFr w base v l) : ∃ A c, v = .slice A l.length c ∧ l.length ≤ c := by
  obtain ⟨A, c, h1, h2, _⟩ := own_frs h
  exact ⟨A, c, h1, h2⟩
theorem own_block {w : World} {base : Nat} {v : Value} {l : List FrD} (h : OwnFr w base v l) : ∀ k, v.ownBlock = some k → base ≤ k := own_base h
/-- Three results, the first one a frame in a block of its own. -/
theorem results_frm3 {fn : Func} {p q r : Tmp} (h : fn.results = #[.cell p 25, .tmp q, .tmp r]) (tmps : Array Value) (w : World) (g : Nat) (f : FrD) (u z : Value)
    (hp : tmps.getD p undef = .pointer (some ⟨g, 0, none⟩)) (hg : FrAt w g f) (hu : tmps.getD q undef = u) (hz : tmps.getD r undef = z) :
    (results fn tmps).run Try.prog w = .ok (.tuple #[FV f, u, z]) w := by
  have hp' : tmps[p]?.getD undef = .pointer (some ⟨g, 0, none⟩) := by simpa using hp
  have hu' : tmps[q]?.getD undef = u := by simpa using hu
  have hz' : tmps[r]?.getD undef = z := by simpa using hz
  simp [results, h, hp', hu', hz', asAddr, run_loadVar_row w g 25 25 (FC f) (0, 0) _ hg Try.underlying25 rfl (by kernel_rfl)]
theorem put5_grown (w : World) (X : Nat) (f : FrD) : w.grownBy (put5W w X f) (some X) := by
  have h1 : ∀ (a : World) (i : Nat) (v : Value), a.grownBy (a.setCell ⟨X, i, none⟩ v) (some X) := fun a i v => ⟨rfl, rfl, rfl, by simp [World.setCell], fun k _ hne => Below.heap_setCell a ⟨X, i, none⟩ v k (fun e => hne (by rw [e]))⟩
  have h2 : ∀ a b c : World, a.grownBy b (some X) → b.grownBy c (some X) → a.grownBy c (some X) := fun a b c h k => ⟨k.os.trans h.os, k.tape.trans h.tape, k.output.trans h.output, Nat.le_trans h.size k.size, fun i hi hn => (k.block i (Nat.lt_of_lt_of_le hi h.size) hn).trans (h.block i hi hn)⟩
  exact h2 _ _ _ (h2 _ _ _ (h2 _ _ _ (h2 _ _ _ (h1 _ _ _) (h1 _ _ _)) (h1 _ _ _)) (h1 _ _ _)) (h1 _ _ _)
/-- A row is not touched by what writes into a block that is not its own. -/
theorem own_farF {w w' : World} {base X : Nat} {v : Value} {l : List FrD} (h : OwnFr w base v l) (hg : w.grownBy w' (some X)) (hX : X < base) : OwnFr w' base v l := by
  obtain ⟨h1, hr⟩ := h
  refine ⟨h1, ?_⟩
  rcases hr with hr | ⟨g, cap, cur, hv, hgb, hh, hrest⟩
  · exact .inl hr
  · exact .inr ⟨g, cap, cur, hv, hgb, (hg.block g (block_lt hh) (fun e => by injection e with e; omega)).trans hh, hrest⟩
theorem put5_below {B X : Nat} {w w' : World} {f : FrD} (h : Below B w w') (hX : B ≤ X) : Below B w (put5W w' X f) :=
  below_put (below_put (below_put (below_put (below_put h hX) hX) hX) hX) hX
section
variable {ops : Array Oper} {rest : List Oper} {o : Oper} {a : Act} {Q : Exit → Act → World → Prop}
/-- A list of frames more, in a step. -/
theorem wp_frames {K : Act → World → Prop} (w : World) (s x : Operand) (ho : o.op = .call { callee := .builtin .append, args := #[s, x], argTypes := #[22, 22] }) (base : Nat) (v : Value) (l : List FrD) (hs : a.eval s = v) (hown : OwnFr w base v l)
    (u : Value) (M : List FrD) (hx : a.eval x = u) (hM : ArgFr w u M) (hn : l.length + M.length ≤ 1000000) (hbase : base ≤ w.heap.size)
    (h : ∀ v' w', OwnFr w' base v' (l ++ M) → w.grownBy w' v.ownBlock → K (a.put o.dst v') w') : Oper.wp Try.prog o a w K Q := by
  obtain ⟨i, h1, h2, h3, h4⟩ := info_parts Try.infoFrm
  obtain ⟨A, c, rfl, hc⟩ := hM
  obtain ⟨A0, c0, rfl, hc0⟩ := own_form hown
  by_cases hMe : M = []
  · subst hMe
    have hrun := run_append_zeroF (P := Try.prog) w 22 o.type 25 i Try.underlying22 h1 A0 A l.length c0 c hc0
    have hk := h (.slice A0 l.length c0) w (by rw [List.append_nil]; exact hown) ⟨rfl, rfl, rfl, Nat.le_refl _, fun _ _ _ => rfl⟩
    unfold Oper.wp
    simp only [List.length_nil] at hx
    simp [execOp, ho, resolve, invoke, builtin, hs, hx, hrun, Result.andThen]
    exact hk
  · rcases hc with hc | ⟨ad, rfl, hc⟩
    · exact absurd hc hMe
    · refine wp_append_own w s x 22 ho base 25 i _ 5 40 Try.underlying22 h1 h2 h3 h4 rfl (by decide) _ l.length (frC l) hs hown ad M.length c (frC M) hx (frC_length M) hc (frC_one M) ?_ ?_ hbase (fun v' w' g1 g2 _ => h v' w' ?_ g2)
      · unfold maxLen; omega
      · omega
      · unfold OwnFr
        rw [frC_append, List.length_append]
        exact g1
theorem app_frames (w : World) (hgd : o.guard = none) (s x : Operand) (ho : o.op = .call { callee := .builtin .append, args := #[s, x], argTypes := #[22, 22] }) (base : Nat) (v : Value) (l : List FrD) (hs : a.eval s = v) (hown : OwnFr w base v l)
    (u : Value) (M : List FrD) (hx : a.eval x = u) (hM : ArgFr w u M) (hn : l.length + M.length ≤ 1000000) (hbase : base ≤ w.heap.size)
    (h : ∀ v' w', OwnFr w' base v' (l ++ M) → w.grownBy w' v.ownBlock → wpList Try.prog ops Q rest (a.put o.dst v') w') : wpList Try.prog ops Q (o :: rest) a w :=
  wpList_plain hgd fun _ hK => wp_frames w s x ho base v l hs hown u M hx hM hn hbase fun v' w' h2 h3 => hK _ _ (h v' w' h2 h3)
theorem step_frames {K : Act → World → Prop} {E : Prop} (w1 w : World) (hgd : o.guard = none) (s x : Operand) (ho : o.op = .call { callee := .builtin .append, args := #[s, x], argTypes := #[22, 22] }) (v : Value) (l : List FrD) (hs : a.eval s = v) (hown : OwnFr w w1.heap.size v l)
    (u : Value) (M : List FrD) (hx : a.eval x = u) (hM : ArgFr w u M) (N : Nat) (hN : (l ++ M).length = N) (hn : N ≤ 1000000) (hW : Below w1.heap.size w1 w)
    (h : ∀ A c w', N ≤ c → OwnFr w' w1.heap.size (.slice A N c) (l ++ M) → Below w1.heap.size w1 w' → K (a.put o.dst (.slice A N c)) w') : if Region.wanted o (yielded ops a.tmps) = true then Oper.wp Try.prog o a w K Q else E := by
  have hw : Region.wanted o (yielded ops a.tmps) = true := by simp [Region.wanted, hgd]
  rw [if_pos hw]
  refine wp_frames w s x ho w1.heap.size v l hs hown u M hx hM (by rw [← List.length_append, hN]; exact hn) hW.size fun v' w' g1 g2 => ?_
  obtain ⟨A, c, rfl, hc⟩ := own_form g1
  rw [hN] at g1 hc ⊢
  exact h A c w' hc g1 (hW.grown g2 hW.size (own_block hown))
/-- copy(dst, src) of frames, dst a row that is known whole. -/
theorem run_copyF {P : Program} (w : World) (T ty elem : TypeId) (size g dLen dCap : Nat) (sp : Option Addr) (sLen sCap : Nat) (cur : Array Value) (t : TypeId) (cs : List Value)
    (hu : P.underlying T = some (.slice elem)) (hs : (P.info? elem).map (·.size) = some size)
    (hg : w.heap[g]? = some (.cells cur t (0, 0))) (hn : cs.length = Nat.min sLen dLen * size)
    (hsrc : 0 < cs.length → ∃ ad, sp = some ad ∧ ∀ j v, cs[j]? = some v → w.cell? (ad.add j) = some v) (hfit : cs.length ≤ cur.size) (h1 : ∀ v ∈ cs, v.oneCell' = true) :
    (Builtin.copy_ #[T, T] ty #[.slice (some ⟨g, 0, none⟩) dLen dCap, .slice sp sLen sCap]).run P w = .ok (goInt (Nat.min sLen dLen)) (w.setRow g (cs ++ cur.toList.drop cs.length).toArray) := by
  have hst := run_storeCells_at P g 0 t cs 0 cur w hg (by simpa using hfit) h1
  simp only [Nat.add_zero, Nat.zero_add, List.take_zero, List.nil_append] at hst
  cases hq : P.info? elem with
  | none => simp [hq] at hs
  | some i =>
    have hi : i.size = size := by simpa [hq] using hs
    rcases sp with _ | a
    · have h0 : cs = [] := by
        rcases Nat.eq_zero_or_pos cs.length with h | h
        · exact List.eq_nil_of_length_eq_zero h
        · obtain ⟨_, h, _⟩ := hsrc h; cases h
      subst h0
      simp [Builtin.copy_, run_underlying hu, Builtin.lenOf, Builtin.firstCells, sizeOf, typeInfo, hq, storeCells, setRow_self w g cur t (0, 0) hg]
    · have hl := run_loadCells_list (P := P) w a cs (fun j v hj => by
        obtain ⟨ad, e, h⟩ := hsrc (by have := (List.getElem?_eq_some_iff.1 hj).1; omega)
        injection e with e
        subst e
        exact h j v hj)
      simp [Builtin.copy_, run_underlying hu, Builtin.lenOf, Builtin.firstCells, sizeOf, typeInfo, hq, hi, ← hn, hl, hst]
/-- make with room for more: a row of zeros. -/
theorem app_make (w : World) (hgd : o.guard = none) (l c : Operand) (hop : o.op = Op.makeSlice 22 l c) (kl kc : IntKind) (L C : Int) (n k : Nat) (hl : a.eval l = .int kl L) (hc : a.eval c = .int kc C) (hL : L = (n : Int)) (hC : C = (k : Int)) (hnk : n ≤ k) (hn : k ≤ 1000000)
    (h : ∀ w' cur, Hid (w'.heap[w.heap.size]? = some (.cells cur 25 (0, 0)) ∧ cur.size = k * 5) → Below w.heap.size w w' → wpList Try.prog ops Q rest (a.put o.dst (.slice (some ⟨w.heap.size, 0, none⟩) n k)) w') : wpList Try.prog ops Q (o :: rest) a w := by
  obtain ⟨i, h1, h2, h3, h4⟩ := info_parts Try.infoFrm
  refine wpList_plain hgd fun K hK' => ?_
  subst hL hC
  have hrun := run_make (P := Try.prog) w 22 25 i _ Try.underlying22 h1 h2 kl kc n k (by omega) (by omega) (by rw [h4]; omega) (by omega)
  simp only [Int.toNat_natCast] at hrun
  have hsz := size_madeCells (Value.agg #[Value.int IntKind.i64 0, Value.int IntKind.i64 0, Value.int IntKind.u64 0, Value.int IntKind.i64 0, Value.int IntKind.i64 0]).cells (k * i.size)
  rw [h3] at hsz hrun
  generalize madeCells (Value.agg #[Value.int IntKind.i64 0, Value.int IntKind.i64 0, Value.int IntKind.u64 0, Value.int IntKind.i64 0, Value.int IntKind.i64 0]).cells (k * 5) = cur at *
  have := hK' _ _ (h _ cur (Lib.hid ⟨heap_alloc_new w _, hsz⟩) ((Below.refl _ _).alloc (Nat.le_refl _) _))
  unfold Oper.wp
  simp [execOp, hop, hl, hc, hrun, Result.andThen]
  exact this
/-- copy of the first frames of a list into such a row: it owns them. -/
theorem app_copy (w w0 : World) (hgd : o.guard = none) (d s : Operand) (ho : o.op = .call { callee := .builtin .copy, args := #[d, s], argTypes := #[22, 22] }) (g n k : Nat) (cur : Array Value) (A : Option Addr) (c : Nat) (m : Nat) (l : List FrD) (hm : m = l.length) (hd : a.eval d = .slice (some ⟨g, 0, none⟩) n k) (hs : a.eval s = .slice A m c)
    (hg : w.heap[g]? = some (.cells cur 25 (0, 0)) ∧ cur.size = k * 5) (hnl : n ≤ l.length) (hnk : n ≤ k) (hk : k ≤ 1000000) (hh : Holds w A (frC l)) (hb : Below g w0 w)
    (h : ∀ w', Hid (OwnFr w' g (.slice (some ⟨g, 0, none⟩) n k) (l.take n)) → Below g w0 w' → wpList Try.prog ops Q rest (a.put o.dst (goInt n)) w') : wpList Try.prog ops Q (o :: rest) a w := by
  obtain ⟨hg, hsz⟩ := hg
  subst hm
  have hlen : (frC (l.take n)).length = n * 5 := by rw [frC_length, List.length_take, Nat.min_eq_left hnl]
  have hrun := run_copyF (P := Try.prog) w 22 o.type 25 5 g n k A l.length c cur 25 (frC (l.take n)) Try.underlying22 (by kernel_rfl) hg (by
      rw [hlen]; congr 1; show n = min l.length n; omega)
    (fun hpos => by
      obtain ⟨b, o, rfl, _, _⟩ := hh.at_ (by rw [frC_length]; rw [hlen] at hpos; omega)
      refine ⟨_, rfl, fun j v hj => ?_⟩
      rw [← frC_take l n hnl, List.getElem?_take] at hj
      split at hj
      · rw [add_addrF]; exact hh.lookF hj
      · cases hj)
    (by rw [hlen, hsz]; omega) (frC_one _)
  have e : Nat.min l.length n = n := by show min l.length n = n; omega
  rw [e] at hrun
  refine Lib.wpList_copy_run w hgd d s _ _ ho _ _ hd hs hrun (h _ (Lib.hid ?_) (below_setRow hb (Nat.le_refl _) _))
  refine ⟨by rw [hlen, List.length_take, Nat.min_eq_left hnl], .inr ⟨g, k, _, by rw [List.length_take, Nat.min_eq_left hnl], Nat.le_refl _, setRow_heap w g cur _ _ _ hg, ?_, by unfold maxLen; omega, ?_, ?_⟩⟩
  · rw [List.length_take, Nat.min_eq_left hnl]; exact hnk
  · simp [hlen, hsz]; omega
  · rw [List.length_take, Nat.min_eq_left hnl, ← hlen]; exact List.take_left
end
end Go.Proofs.Ytckknakpmaagnaa

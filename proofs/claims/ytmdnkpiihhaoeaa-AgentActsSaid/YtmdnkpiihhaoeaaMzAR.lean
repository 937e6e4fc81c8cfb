/- Joined texts. -/
import Derived.Test.YtmdnkpiihhaoeaaMzAJ
import Derived.Below
import Derived.Test.YtmdnkpiihhaoeaaMzAB
import Derived.Laws.AppendOwnNone
import Derived.Laws.CopyOwn
import Derived.Lib.SlBuf
import Derived.Laws.StructEq
import Derived.BigQuiet
namespace Go.Proofs.Ytmdnkpiihhaoeaa
open Go.RowKit

theorem cut0_c (v n : Int) (w : World) (h1 : n ≤ 0) (hn : -1000000 ≤ n) (_ : -9223372036854775808 ≤ v) (_ : v ≤ 9223372036854775807) : Calls Try.prog 25 #[.int .i64 v, .int .i64 n] w fun e w' => CutPost 1 e w w' := by
  go_enter Try.func25, Try.ntmps25
  go_wp2
  go_ret
  exact ⟨0, by omega, rfl, rfl⟩
set_option maxHeartbeats 1000000 in
theorem next0_c (B g T : Nat) (n : Int) (w : World) (ht : TapeOk w B g T) (hT : T ≤ 1000000000) (h1 : n ≤ 0) (hn : -1000000 ≤ n) : Calls Try.prog 11 #[.pointer (some ⟨g, 0, none⟩), .int .i64 n] w (NextPost B g T 1 w) := by
  obtain ⟨A, len, c, at_, zs, hh, hlen, hat, hBg, hmax, hcells⟩ := ht
  unfold maxLen at hmax
  have hHH := Lib.hid hh
  have hlt := block_lt hh
  have c0 : w.cell? ⟨g, 0, none⟩ = some (.slice A len c) := by rw [cell_of_row w g 0 _ _ (0, 0) hh]; rfl
  have c1 : w.cell? ⟨g, 1, none⟩ = some (.int .i64 at_) := by rw [cell_of_row w g 1 _ _ (0, 0) hh]; rfl
  have hfz : w.frozen? ⟨g, 1, none⟩ = false := by simp [World.frozen?, hh]
  clear hh
  have HC := Lib.hid hcells
  by_cases hin : at_ < len
  · obtain ⟨b, o, rfl, _, hc⟩ := hcells (by omega)
    obtain ⟨e1, e2, e3⟩ := hc at_ (by omega)
    have HL := Lib.hid hlen
    clear hc hcells
    generalize zs[at_] = z at *
    clear hlen
    go_enter Try.func11, Try.ntmps11
    go_wp2
    go_quiet (fail)
    go_wp2
    go_quiet (fail)
    go_wp2_with fail
    refine (cut0_c _ _ _ h1 hn e2 e3).mono ?_
    rintro e w1 ⟨r, hr, rfl, rfl⟩
    go_wp2_with fail
    go_ret
    have hts := fun q => tape_step (nq := q) hHH.out HL.out hat hBg hmax HC.out
    exact ⟨r, hr, rfl, (hts _).1, (hts _).2⟩
  · clear hcells
    go_enter Try.func11, Try.ntmps11
    go_wp2
    go_quiet (fail)
    go_wp2_with fail
    refine (cut0_c _ _ _ h1 hn (by omega) (by omega)).mono ?_
    rintro e w1 ⟨r, hr, rfl, rfl⟩
    go_wp2_with fail
    go_ret
    obtain ⟨h2, h3⟩ := tape_step (nq := nq) hHH.out hlen hat hBg hmax HC.out
    exact ⟨r, hr, rfl, h2, h3⟩
/-- The list of numbers that an argument holds. -/
def IntsAt (w : World) (B : Nat) (A : Option Addr) (zs : List Int) : Prop :=
  0 < zs.length → ∃ b o, A = some ⟨b, o, none⟩ ∧ b < B ∧ ∀ j (h : j < zs.length), w.cell? ⟨b, o + j, none⟩ = some (.int .i64 zs[j]) ∧ -9223372036854775808 ≤ zs[j] ∧ zs[j] ≤ 9223372036854775807
theorem tape_new {w w1 : World} {B : Nat} {A : Option Addr} {c : Nat} {zs : List Int} (h : IntsAt w B A zs) (hB : B ≤ w.heap.size) (hb : Below w.heap.size w w1) (hl : zs.length ≤ maxLen) :
    TapeOk (w1.alloc (.cells #[.slice A zs.length c, .int .i64 0] 40)) B w1.heap.size 0 := by
  refine ⟨A, zs.length, c, 0, zs, heap_alloc_new w1 _, rfl, Nat.le_refl _, by have := hb.size; omega, hl, fun hn => ?_⟩
  obtain ⟨b, o, hA, hlt, hc⟩ := h hn
  refine ⟨b, o, hA, hlt, fun j hj => ⟨?_, (hc j hj).2⟩⟩
  have hbb : Below w.heap.size w (w1.alloc (.cells #[.slice A zs.length c, .int .i64 0] 40)) := hb.alloc hb.size _
  rw [hbb.cell (p := ⟨b, o + j, none⟩) (by show b < _; omega)]
  exact (hc j hj).1
theorem IntsAt.keep {w w' : World} {B : Nat} {A : Option Addr} {zs : List Int} (h : IntsAt w B A zs) (hB : B ≤ w.heap.size) (hb : Below w.heap.size w w') : IntsAt w' B A zs := fun hn => by
  obtain ⟨b, o, hA, hlt, hc⟩ := h hn
  exact ⟨b, o, hA, hlt, fun j hj => ⟨(hb.cell (p := ⟨b, o + j, none⟩) (by show b < _; omega)).trans (hc j hj).1, (hc j hj).2⟩⟩
theorem IntsAt.more {w : World} {B B' : Nat} {A : Option Addr} {zs : List Int} (h : IntsAt w B A zs) (hB : B ≤ B') : IntsAt w B' A zs := fun hn => by
  obtain ⟨b, o, hA, hlt, hc⟩ := h hn
  exact ⟨b, o, hA, by omega, hc⟩
end Go.Proofs.Ytmdnkpiihhaoeaa
namespace Go.Proofs.Ytmdnkpiihhaoeaa.Fl

structure BodD where
  cel : Int
  dst : Int
  srv : Bool
  flt : Bool
deriving DecidableEq
def zeroB : BodD := ⟨0, 0, false, false⟩
def offB : BodD := ⟨-1, -1, false, false⟩
def floorB (b : BodD) : Bool := b.cel != -1
def restB (b : BodD) : Bool := floorB b && b.dst == -1 && !b.srv && !b.flt
/-- A body after an action; fol: the cell follows its own. -/
def chgB (b : BodD) (a c : Int) : BodD :=
  if a = 0 then ⟨c, -1, false, false⟩ else if a = 1 then ⟨b.cel, c, b.srv, b.flt⟩ else if a = 2 then ⟨b.dst, -1, b.srv, b.flt⟩
  else if a = 3 then ⟨b.cel, b.dst, true, b.flt⟩ else if a = 4 then ⟨b.cel, b.dst, false, b.flt⟩ else if a = 5 then ⟨b.cel, b.dst, b.srv, true⟩ else offB
/-- An action is possible. -/
def okB (fol : Bool) (b : BodD) (a : Int) : Bool :=
  if a = 0 then !floorB b else if a = 1 then restB b && fol else if a = 2 then floorB b && b.dst != -1 && !b.flt
  else if a = 3 then restB b else if a = 4 then floorB b && b.srv && !b.flt else if a = 5 then floorB b else floorB b && (restB b || b.flt)
/-- A robot and a cell exist. -/
def rangeB (l : List BodD) (r c : Int) : Prop := 0 ≤ r ∧ r < (l.length : Int) ∧ 0 ≤ c ∧ c < 48
instance (l : List BodD) (r c : Int) : Decidable (rangeB l r c) := by unfold rangeB; infer_instance
def bodAt (l : List BodD) (r : Int) : BodD := l.getD r.toNat zeroB
/-- The error of an action. -/
def doE (fol : Bool) (l : List BodD) (r a c : Int) : Int := if rangeB l r c then (if okB fol (bodAt l r) a = true then 0 else 24) else 19
/-- The bodies after an action. -/
def doL (fol : Bool) (l : List BodD) (r a c : Int) : List BodD := if doE fol l r a c = 0 then l.set r.toNat (chgB (bodAt l r) a c) else []
theorem do_range {fol : Bool} {l : List BodD} {r a c : Int} (h : ¬ rangeB l r c) : doE fol l r a c = 19 ∧ doL fol l r a c = [] := by
  have e : doE fol l r a c = 19 := if_neg h
  exact ⟨e, by unfold doL; rw [e]; rfl⟩
theorem do_no {fol : Bool} {l : List BodD} {r a c : Int} (h : rangeB l r c) (hb : okB fol (bodAt l r) a = false) : doE fol l r a c = 24 ∧ doL fol l r a c = [] := by
  have e : doE fol l r a c = 24 := by unfold doE; rw [if_pos h, hb]; rfl
  exact ⟨e, by unfold doL; rw [e]; rfl⟩
theorem do_ok {fol : Bool} {l : List BodD} {r a c : Int} (h : rangeB l r c) (hb : okB fol (bodAt l r) a = true) : doE fol l r a c = 0 ∧ doL fol l r a c = l.set r.toNat (chgB (bodAt l r) a c) := by
  have e : doE fol l r a c = 0 := by unfold doE; rw [if_pos h, hb]; rfl
  exact ⟨e, by unfold doL; rw [e]; rfl⟩
theorem bodAt_nat {l : List BodD} {i : Nat} (h : i < l.length) : bodAt l (i : Int) = l[i] := by
  unfold bodAt
  rw [Int.toNat_natCast, List.getD_eq_getElem?_getD, List.getElem?_eq_getElem h]
  rfl
/-- The cells of a footprint. -/
def fpB (b : BodD) : List Int := if b.cel = -1 then [] else if b.dst = -1 ∨ b.dst = b.cel then [b.cel] else [min b.cel b.dst, max b.cel b.dst]
/-- Two footprints have a cell in common. -/
def meetB (a b : BodD) : Bool := (fpB a).any (fun x => (fpB b).any (fun y => decide (x = y)))
theorem fpB_len (b : BodD) : (fpB b).length ≤ 2 := by
  unfold fpB
  split
  · simp
  · split <;> simp
/-- The first robot from k on whose footprint meets that of a. -/
def clashK (a : BodD) : List BodD → Nat → Option Nat
  | [], _ => none
  | b :: l, k => if meetB a b = true then some k else clashK a l (k + 1)
/-- The first two robots from i on whose footprints meet. -/
def clashL : List BodD → Nat → Option (Nat × Nat)
  | [], _ => none
  | a :: l, i => match clashK a l (i + 1) with
    | some k => some (i, k)
    | none => clashL l (i + 1)
end Go.Proofs.Ytmdnkpiihhaoeaa.Fl
namespace Go.Proofs.Ytmdnkpiihhaoeaa
open Go Go.RowKit

/-- A struct type: its cells, its type and that of its slices. -/
structure StK (α : Type) where
  f : α → List Value
  k : Nat
  e : TypeId
  t : TypeId
  z : Value
  bytes : Nat
  pos : 0 < k
  zsize : z.cells.size = k
  len : ∀ q, (f q).length = k
  one : ∀ q, ∀ u ∈ f q, u.oneCell' = true
  under : Try.prog.underlying t = some (.slice e)
  info : (Try.prog.info? e).map (fun i => (i.zero, i.size, i.bytes)) = some (some z, k, bytes)
  small : bytes ≤ 4096
namespace StK
variable {α : Type} (S : StK α)
/-- The cells of a list. -/
def cs (l : List α) : List Value := l.flatMap S.f
theorem cs_nil : S.cs [] = [] := rfl
theorem cs_cons (q : α) (l : List α) : S.cs (q :: l) = S.f q ++ S.cs l := by simp [cs]
theorem cs_append (l m : List α) : S.cs (l ++ m) = S.cs l ++ S.cs m := by simp [cs]
theorem cs_one (q : α) : S.cs [q] = S.f q := by simp [cs]
theorem cs_length : ∀ l : List α, (S.cs l).length = l.length * S.k
  | [] => by simp [cs]
  | q :: l => by rw [cs_cons, List.length_append, S.len, cs_length l, List.length_cons, Nat.add_mul]; omega
theorem cs_ones (l : List α) : ∀ u ∈ S.cs l, u.oneCell' = true := fun u hu => by
  obtain ⟨q, _, hq⟩ := List.mem_flatMap.1 hu
  exact S.one q u hq
theorem cs_take (l : List α) (n : Nat) (h : n ≤ l.length) : (S.cs l).take (n * S.k) = S.cs (l.take n) := by
  have e : S.cs l = S.cs (l.take n) ++ S.cs (l.drop n) := by rw [← cs_append, List.take_append_drop]
  rw [e, List.take_left' (by rw [cs_length, List.length_take, Nat.min_eq_left h])]
theorem cs_drop (l : List α) (n : Nat) (h : n ≤ l.length) : (S.cs l).drop (n * S.k) = S.cs (l.drop n) := by
  have e : S.cs l = S.cs (l.take n) ++ S.cs (l.drop n) := by rw [← cs_append, List.take_append_drop]
  rw [e, List.drop_left' (by rw [cs_length, List.length_take, Nat.min_eq_left h])]
/-- Cell j of struct i. -/
theorem cs_at {l : List α} {i : Nat} (h : i < l.length) {j : Nat} {u : Value} (hj : (S.f l[i])[j]? = some u) : (S.cs l)[i * S.k + j]? = some u := by
  have e : S.cs l = S.cs (l.take i) ++ (S.f l[i] ++ S.cs (l.drop (i + 1))) := by rw [← cs_cons, ← cs_append, ← List.drop_eq_getElem_cons h, List.take_append_drop]
  have hl : (S.cs (l.take i)).length = i * S.k := by rw [cs_length, List.length_take, Nat.min_eq_left (by omega)]
  rw [e, List.getElem?_append_right (by omega), hl, Nat.add_sub_cancel_left, List.getElem?_append_left (List.getElem?_eq_some_iff.1 hj).1]
  exact hj
/-- A list with one struct replaced: its cells. -/
theorem cs_set (l : List α) (i : Nat) (q : α) (h : i < l.length) : S.cs (l.set i q) = (S.cs l).take (i * S.k) ++ S.f q ++ (S.cs l).drop ((i + 1) * S.k) := by
  rw [cs_take S l i (by omega), cs_drop S l (i + 1) (by omega), List.set_eq_take_append_cons_drop, if_pos h, cs_append, cs_cons, List.append_assoc]
/-- The cells of one struct lie from this place on. -/
def At (w : World) (b o : Nat) (q : α) : Prop := ∀ j u, (S.f q)[j]? = some u → w.cell? ⟨b, o + j, none⟩ = some u
variable {S}
theorem At.keep {w w' : World} {b o : Nat} {q : α} (h : S.At w b o q) (hb : Below w.heap.size w w') : S.At w' b o q := fun j u hu => by
  have h0 := h j u hu
  exact (hb.cell (p := ⟨b, o + j, none⟩) (World.block_lt_of_cell? _ _ h0)).trans h0
theorem look {w : World} {b o : Nat} {xs : List Value} (h : Holds w (some ⟨b, o, none⟩) xs) {j : Nat} {u : Value} (hu : xs[j]? = some u) : w.cell? ⟨b, o + j, none⟩ = some u := by
  obtain ⟨hj, rfl⟩ := List.getElem?_eq_some_iff.1 hu
  obtain ⟨b', o', e, _, hc⟩ := h.at_ (by omega)
  injection e with e
  injection e with e1 e2
  subst e1 e2
  exact hc j hj
theorem holds_at {w : World} {A : Option Addr} {l : List α} (h : Holds w A (S.cs l)) {i : Nat} (hi : i < l.length) : ∃ b o, A = some ⟨b, o, none⟩ ∧ b < w.heap.size ∧ S.At w b (o + i * S.k) l[i] := by
  have hp := S.pos
  obtain ⟨b, o, hA, hb, _⟩ := h.at_ (by rw [cs_length]; exact Nat.mul_pos (by omega) hp)
  subst hA
  exact ⟨b, o, rfl, hb, fun j u hu => by rw [Nat.add_assoc]; exact look h (S.cs_at hi hu)⟩
/-- A slice of structs in memory; one in a row of the call's own. -/
def Sl (S : StK α) (w : World) (v : Value) (l : List α) : Prop := ∃ A c, v = .slice A l.length c ∧ l.length ≤ c ∧ Holds w A (S.cs l)
abbrev Own (S : StK α) (w : World) (base : Nat) (v : Value) (l : List α) : Prop := w.ownsRow base S.e S.k v l.length (S.cs l)
theorem Own.sl {w : World} {base : Nat} {v : Value} {l : List α} (h : S.Own w base v l) : S.Sl w v l := by
  have h0 := h
  obtain ⟨h1, h2⟩ := h
  rcases h2 with ⟨rfl, he⟩ | ⟨g, cap, cur, rfl, _, _, hnc, _⟩
  · refine ⟨none, 0, by rw [he], by omega, ?_⟩
    exact .inl (List.eq_nil_of_length_eq_zero (by rw [h1, he]; simp))
  · exact ⟨_, cap, rfl, hnc, ownsRow_holds h0⟩
theorem Sl.keep {w w' : World} {v : Value} {l : List α} (h : S.Sl w v l) (hb : Below w.heap.size w w') : S.Sl w' v l := by
  obtain ⟨A, c, h1, h2, h3⟩ := h
  exact ⟨A, c, h1, h2, h3.keep hb⟩
theorem Own.keep {w w' : World} {base : Nat} {v : Value} {l : List α} (h : S.Own w base v l) (hb : Below w.heap.size w w') : S.Own w' base v l := ownsRow_below h hb
theorem Own.base {w : World} {b1 b2 : Nat} {v : Value} {l : List α} (h : S.Own w b1 v l) (hb : b2 ≤ b1) : S.Own w b2 v l := ownsRow_base h hb
theorem Own.nil (S : StK α) (w : World) (base : Nat) : S.Own w base (.slice none 0 0) [] := World.ownsRow_nil _ _ _ _
theorem Own.block {w : World} {base : Nat} {v : Value} {l : List α} (h : S.Own w base v l) : ∀ k, v.ownBlock = some k → base ≤ k := own_base h
/-- A row is not touched by what writes into a block below it. -/
theorem Own.far {w w' : World} {base X : Nat} {v : Value} {l : List α} (h : S.Own w base v l) (hg : w.grownBy w' (some X)) (hX : X < base) : S.Own w' base v l := by
  obtain ⟨h1, hr⟩ := h
  refine ⟨h1, ?_⟩
  rcases hr with hr | ⟨g, cap, cur, hv, hgb, hh, hrest⟩
  · exact .inl hr
  · exact .inr ⟨g, cap, cur, hv, hgb, (hg.block g (block_lt hh) (fun e => by injection e with e; omega)).trans hh, hrest⟩
theorem Own.form {w : World} {base : Nat} {v : Value} {l : List α} (h : S.Own w base v l) : ∃ A c, v = .slice A l.length c ∧ l.length ≤ c := by
  obtain ⟨A, c, h1, h2, _⟩ := h.sl
  exact ⟨A, c, h1, h2⟩
/-- What is appended: a list of structs in memory, or none. -/
def Arg (S : StK α) (w : World) (u : Value) (M : List α) : Prop := ∃ A c, u = .slice A M.length c ∧ (M = [] ∨ ∃ ad, A = some ad ∧ ∀ j v, (S.cs M)[j]? = some v → w.cell? (ad.add j) = some v)
theorem add_at (g o j : Nat) : Addr.add ⟨g, o, none⟩ j = ⟨g, o + j, none⟩ := by
  unfold Addr.add
  split
  · rename_i h; subst h; rfl
  · rfl
theorem Arg.all {w : World} {A : Option Addr} {l : List α} (h : Holds w A (S.cs l)) (c : Nat) : S.Arg w (.slice A l.length c) l := by
  by_cases hl : l = []
  · exact ⟨A, c, rfl, .inl hl⟩
  · obtain ⟨b, o, rfl, _, _⟩ := h.at_ (by rw [cs_length]; exact Nat.mul_pos (List.length_pos_iff.2 hl) S.pos)
    exact ⟨_, c, rfl, .inr ⟨_, rfl, fun j v hv => by rw [add_at]; exact look h hv⟩⟩
theorem Arg.one {w : World} {b o : Nat} {q : α} (h : S.At w b o q) (c : Nat) : S.Arg w (.slice (some ⟨b, o, none⟩) 1 c) [q] :=
  ⟨_, c, rfl, .inr ⟨_, rfl, fun j v hv => by rw [add_at]; exact h j v (by rwa [cs_one] at hv)⟩⟩
theorem Arg.none (S : StK α) (w : World) (A : Option Addr) (c : Nat) : S.Arg w (.slice A 0 c) [] := ⟨A, c, rfl, .inl rfl⟩
/-- A new block that holds one struct. -/
theorem At.new {w : World} {o : Obj} {cells : Array Value} {ty : TypeId} {q : α} (ho : o = .cells cells ty) (hc : cells.toList = S.f q) : S.At (w.alloc o) w.heap.size 0 q := fun j u hu => by
  subst ho
  rw [Nat.zero_add, cell_of_row _ _ _ _ _ _ (heap_alloc_new w _), ← Array.getElem?_toList, hc]
  exact hu
theorem run_append_none {P : Program} (w : World) (t ty e : TypeId) (i : TypeInfo) (ht : P.underlying t = some (.slice e)) (hi : P.info? e = some i) (A X : Option Addr) (n c d : Nat) (hnc : n ≤ c) :
    (Builtin.append_ #[t, t] ty #[.slice A n c, .slice X 0 d]).run P w = .ok (.slice A n c) w := by
  cases A <;> cases X <;> simp [Builtin.append_, run_underlying ht, sizeOf, typeInfo, hi, Builtin.lenOf, hnc, Builtin.firstCells, loadCells, loadCellsFrom, storeCells, Result.andThen]
/-- A cell of a row of the call's own is written. -/
theorem own_putK {w : World} {base g n cap i k : Nat} {e : TypeId} {xs : List Value} {v : Value} (h : w.ownsRow base e k (.slice (some ⟨g, 0, none⟩) n cap) n xs) : (w.setCell ⟨g, i, none⟩ v).ownsRow base e k (.slice (some ⟨g, 0, none⟩) n cap) n (xs.set i v) := by
  obtain ⟨h1, h2⟩ := h
  rcases h2 with ⟨hv, _⟩ | ⟨g', cap', cur, hv, hg, hh, hnc, hcm, hcs, hx⟩
  · cases hv
  · injection hv with hA _ hc
    injection hA with hA
    injection hA with hA
    subst hA hc
    refine ⟨by simpa using h1, .inr ⟨g, cap, cur.setIfInBounds i v, rfl, hg, ?_, hnc, hcm, by simpa using hcs, ?_⟩⟩
    · simp [World.setCell, Array.getElem?_modify]
      exact ⟨_, hh, by simp⟩
    · rw [← hx]; simp [List.take_set]
theorem own_getK {w : World} {base n g cap i k : Nat} {e : TypeId} {xs : List Value} (h : w.ownsRow base e k (.slice (some ⟨g, 0, none⟩) n cap) n xs) {u : Value} (hu : xs[i]? = some u) : w.cell? ⟨g, i, none⟩ = some u ∧ w.frozen? ⟨g, i, none⟩ = false := by
  obtain ⟨h1, h2⟩ := h
  rcases h2 with ⟨hv, _⟩ | ⟨g', cap', cur, hv, hg, hh, hnc, hcm, hcs, hx⟩
  · cases hv
  · injection hv with hA _ hc
    injection hA with hA
    injection hA with hA
    subst hA hc
    refine ⟨?_, by simp [World.frozen?, hh]⟩
    rw [cell_of_row w g i cur e (0, 0) hh]
    subst hx
    rw [List.getElem?_take] at hu
    split at hu
    · simpa using hu
    · cases hu
/-- Cells of a block are written one after another. -/
def puts (w : World) (g : Nat) : Nat → List Value → World
  | _, [] => w
  | o, v :: r => puts (w.setCell ⟨g, o, none⟩ v) g (o + 1) r
theorem own_puts {base g n cap k : Nat} {e : TypeId} : ∀ (ys : List Value) (w : World) (o : Nat) (xs : List Value), w.ownsRow base e k (.slice (some ⟨g, 0, none⟩) n cap) n xs → o + ys.length ≤ xs.length → (puts w g o ys).ownsRow base e k (.slice (some ⟨g, 0, none⟩) n cap) n (xs.take o ++ ys ++ xs.drop (o + ys.length))
  | [], w, o, xs, h, _ => by simpa [puts] using h
  | v :: r, w, o, xs, h, hl => by
    rw [List.length_cons] at hl
    have ih := own_puts r (w.setCell ⟨g, o, none⟩ v) (o + 1) (xs.set o v) (own_putK h) (by rw [List.length_set]; omega)
    have e1 : (xs.set o v).take (o + 1) = xs.take o ++ [v] := by
      rw [List.take_add_one, List.take_set_of_le (Nat.le_refl _), List.getElem?_set_self (by omega)]
      rfl
    have e2 : (xs.set o v).drop (o + 1 + r.length) = xs.drop (o + 1 + r.length) := List.drop_set_of_lt (by omega)
    rw [e1, e2] at ih
    show (puts (w.setCell ⟨g, o, none⟩ v) g (o + 1) r).ownsRow base e k _ n _
    rw [List.length_cons, show o + (r.length + 1) = o + 1 + r.length by omega]
    simpa using ih
theorem puts_below {B g : Nat} {a : World} (hg : B ≤ g) : ∀ (ys : List Value) (w : World) (o : Nat), Below B a w → Below B a (puts w g o ys)
  | [], _, _, h => h
  | _ :: r, _, o, h => puts_below hg r _ (o + 1) (below_put h hg)
theorem puts_grown {g : Nat} {a : World} : ∀ (ys : List Value) (w : World) (o : Nat), a.grownBy w (some g) → a.grownBy (puts w g o ys) (some g)
  | [], _, _, h => h
  | v :: r, w, o, h => puts_grown r _ (o + 1) ⟨h.os, h.tape, h.output, Nat.le_trans h.size (by simp [World.setCell]), fun k hk hn => (Below.heap_setCell w ⟨g, o, none⟩ v k (fun e => hn (by rw [e]))).trans (h.block k hk hn)⟩
/-- One struct of a row of the call's own is written. -/
theorem Own.set {w : World} {base g c : Nat} {l : List α} (h : S.Own w base (.slice (some ⟨g, 0, none⟩) l.length c) l) {i : Nat} (hi : i < l.length) (q : α) : S.Own (puts w g (i * S.k) (S.f q)) base (.slice (some ⟨g, 0, none⟩) l.length c) (l.set i q) := by
  have h1 : (i + 1) * S.k ≤ (S.cs l).length := by rw [cs_length]; exact Nat.mul_le_mul_right _ hi
  rw [Nat.add_mul] at h1
  have h2 := own_puts (S.f q) w (i * S.k) (S.cs l) h (by rw [S.len]; omega)
  unfold Own
  rw [S.cs_set l i q hi, List.length_set, Nat.add_mul, Nat.one_mul]
  rw [S.len] at h2
  exact h2
/-- What a row of the call's own holds at one struct, and that it may be written. -/
theorem Own.get {w : World} {base g n c : Nat} {l : List α} (h : S.Own w base (.slice (some ⟨g, 0, none⟩) n c) l) (hn : n = l.length) {i : Nat} (hi : i < l.length) : S.At w g (i * S.k) l[i] ∧ ∀ j, j < S.k → w.frozen? ⟨g, i * S.k + j, none⟩ = false := by
  subst hn
  refine ⟨fun j u hu => (own_getK h (S.cs_at hi hu)).1, fun j hj => ?_⟩
  have : ∃ u, (S.f l[i])[j]? = some u := ⟨_, List.getElem?_eq_getElem (by rw [S.len]; exact hj)⟩
  obtain ⟨u, hu⟩ := this
  exact (own_getK h (S.cs_at hi hu)).2
section
variable {ops : Array Oper} {rest : List Oper} {o : Oper} {a : Act} {Q : Exit → Act → World → Prop}
/-- A list of structs more, in a step, of any size that memory has. -/
theorem wp_moreB {K : Act → World → Prop} (w : World) (s x : Operand) (ho : o.op = .call { callee := .builtin .append, args := #[s, x], argTypes := #[S.t, S.t] }) (base : Nat) (v : Value) (l : List α) (hs : a.eval s = v) (hown : S.Own w base v l)
    (u : Value) (M : List α) (hx : a.eval x = u) (hM : S.Arg w u M) (h63 : l.length + M.length ≤ maxLen) (hn : (l.length + M.length) * S.bytes ≤ 140737488355328) (hbase : base ≤ w.heap.size)
    (h : ∀ v' w', S.Own w' base v' (l ++ M) → w.grownBy w' v.ownBlock → K (a.put o.dst v') w') : Oper.wp Try.prog o a w K Q := by
  obtain ⟨i, h1, h2, h3, h4⟩ := info_parts S.info
  obtain ⟨A, c, rfl, hc⟩ := hM
  obtain ⟨A0, c0, rfl, hc0⟩ := hown.form
  by_cases hMe : M = []
  · subst hMe
    have hrun := run_append_none (P := Try.prog) w S.t o.type S.e i S.under h1 A0 A l.length c0 c hc0
    have hk := h (.slice A0 l.length c0) w (by rw [List.append_nil]; exact hown) ⟨rfl, rfl, rfl, Nat.le_refl _, fun _ _ _ => rfl⟩
    unfold Oper.wp
    simp only [List.length_nil] at hx
    simp [execOp, ho, resolve, invoke, builtin, hs, hx, hrun, Result.andThen]
    exact hk
  · rcases hc with hc | ⟨ad, rfl, hc⟩
    · exact absurd hc hMe
    · skip
      refine wp_append_own w s x S.t ho base S.e i _ S.k S.bytes S.under h1 h2 h3 h4 (S.zsize) S.pos _ l.length (S.cs l) hs hown ad M.length c (S.cs M) hx (S.cs_length M) hc (S.cs_ones M) ?_ ?_ hbase (fun v' w' g1 g2 _ => h v' w' ?_ g2)
      · exact h63
      · exact hn
      · show w'.ownsRow base S.e S.k v' (l ++ M).length (S.cs (l ++ M))
        rw [cs_append, List.length_append]
        exact g1
/-- A list of structs more, in a step. -/
theorem wp_more {K : Act → World → Prop} (w : World) (s x : Operand) (ho : o.op = .call { callee := .builtin .append, args := #[s, x], argTypes := #[S.t, S.t] }) (base : Nat) (v : Value) (l : List α) (hs : a.eval s = v) (hown : S.Own w base v l)
    (u : Value) (M : List α) (hx : a.eval x = u) (hM : S.Arg w u M) (hn : l.length + M.length ≤ 1000000) (hbase : base ≤ w.heap.size)
    (h : ∀ v' w', S.Own w' base v' (l ++ M) → w.grownBy w' v.ownBlock → K (a.put o.dst v') w') : Oper.wp Try.prog o a w K Q :=
  wp_moreB w s x ho base v l hs hown u M hx hM (by unfold maxLen; omega) (Nat.le_trans (Nat.mul_le_mul hn S.small) (by omega)) hbase h
theorem app_moreB (w : World) (hgd : o.guard = none) (s x : Operand) (ho : o.op = .call { callee := .builtin .append, args := #[s, x], argTypes := #[S.t, S.t] }) (base : Nat) (v : Value) (l : List α) (hs : a.eval s = v) (hown : S.Own w base v l)
    (u : Value) (M : List α) (hx : a.eval x = u) (hM : S.Arg w u M) (h63 : l.length + M.length ≤ maxLen) (hn : (l.length + M.length) * S.bytes ≤ 140737488355328) (hbase : base ≤ w.heap.size)
    (h : ∀ v' w', S.Own w' base v' (l ++ M) → w.grownBy w' v.ownBlock → wpList Try.prog ops Q rest (a.put o.dst v') w') : wpList Try.prog ops Q (o :: rest) a w :=
  wpList_plain hgd fun _ hK => wp_moreB w s x ho base v l hs hown u M hx hM h63 hn hbase fun v' w' h2 h3 => hK _ _ (h v' w' h2 h3)
theorem app_more (w : World) (hgd : o.guard = none) (s x : Operand) (ho : o.op = .call { callee := .builtin .append, args := #[s, x], argTypes := #[S.t, S.t] }) (base : Nat) (v : Value) (l : List α) (hs : a.eval s = v) (hown : S.Own w base v l)
    (u : Value) (M : List α) (hx : a.eval x = u) (hM : S.Arg w u M) (hn : l.length + M.length ≤ 1000000) (hbase : base ≤ w.heap.size)
    (h : ∀ v' w', S.Own w' base v' (l ++ M) → w.grownBy w' v.ownBlock → wpList Try.prog ops Q rest (a.put o.dst v') w') : wpList Try.prog ops Q (o :: rest) a w :=
  wpList_plain hgd fun _ hK => wp_more w s x ho base v l hs hown u M hx hM hn hbase fun v' w' h2 h3 => hK _ _ (h v' w' h2 h3)
/-- Structs appended at a step of a drawn region. -/
theorem step_moreB {K : Act → World → Prop} {E : Prop} (w : World) (hgd : o.guard = none) (s x : Operand) (ho : o.op = .call { callee := .builtin .append, args := #[s, x], argTypes := #[S.t, S.t] }) (base : Nat) (v : Value) (l : List α) (hs : a.eval s = v) (hown : S.Own w base v l)
    (u : Value) (M : List α) (hx : a.eval x = u) (hM : S.Arg w u M) (h63 : l.length + M.length ≤ maxLen) (hn : (l.length + M.length) * S.bytes ≤ 140737488355328) (hbase : base ≤ w.heap.size)
    (h : ∀ v' w', S.Own w' base v' (l ++ M) → w.grownBy w' v.ownBlock → K (a.put o.dst v') w') : if Region.wanted o (yielded ops a.tmps) = true then Oper.wp Try.prog o a w K Q else E := by
  have hw : Region.wanted o (yielded ops a.tmps) = true := by simp [Region.wanted, hgd]
  rw [if_pos hw]
  exact wp_moreB w s x ho base v l hs hown u M hx hM h63 hn hbase h
theorem step_more {K : Act → World → Prop} {E : Prop} (w1 w : World) (hgd : o.guard = none) (s x : Operand) (ho : o.op = .call { callee := .builtin .append, args := #[s, x], argTypes := #[S.t, S.t] }) (v : Value) (l : List α) (hs : a.eval s = v) (hown : S.Own w w1.heap.size v l)
    (u : Value) (M : List α) (hx : a.eval x = u) (hM : S.Arg w u M) (N : Nat) (hN : (l ++ M).length = N) (hn : N ≤ 1000000) (hW : Below w1.heap.size w1 w)
    (h : ∀ A c w', N ≤ c → S.Own w' w1.heap.size (.slice A N c) (l ++ M) → Below w1.heap.size w1 w' → K (a.put o.dst (.slice A N c)) w') : if Region.wanted o (yielded ops a.tmps) = true then Oper.wp Try.prog o a w K Q else E := by
  have hw : Region.wanted o (yielded ops a.tmps) = true := by simp [Region.wanted, hgd]
  rw [if_pos hw]
  refine wp_more w s x ho w1.heap.size v l hs hown u M hx hM (by rw [← List.length_append, hN]; exact hn) hW.size fun v' w' g1 g2 => ?_
  obtain ⟨A, c, rfl, hc⟩ := g1.form
  rw [hN] at g1 hc ⊢
  exact h A c w' hc g1 (hW.grown g2 hW.size hown.block)
end
end StK
end Go.Proofs.Ytmdnkpiihhaoeaa
namespace Go.Proofs.Ytmdnkpiihhaoeaa
open Go Go.RowKit Fl

abbrev BV (b : BodD) : Value := .agg #[.int .i64 b.cel, .int .i64 b.dst, .bool b.srv, .bool b.flt]
abbrev BC (b : BodD) : Array Value := #[.int .i64 b.cel, .int .i64 b.dst, .bool b.srv, .bool b.flt]
def bodS : StK BodD where
  f b := [.int .i64 b.cel, .int .i64 b.dst, .bool b.srv, .bool b.flt]
  k := 4
  e := 34
  t := 79
  z := .agg #[.int .i64 0, .int .i64 0, .bool false, .bool false]
  bytes := 24
  pos := by decide
  zsize := rfl
  len _ := rfl
  one b u hu := by
    simp only [List.mem_cons, List.not_mem_nil, or_false] at hu
    rcases hu with rfl | rfl | rfl | rfl <;> rfl
  under := Try.underlying79
  info := by kernel_rfl
  small := by decide
theorem bod_cells {w : World} {b o : Nat} {q : BodD} (h : bodS.At w b o q) : w.cell? ⟨b, o, none⟩ = some (.int .i64 q.cel) ∧ w.cell? ⟨b, o + 1, none⟩ = some (.int .i64 q.dst) ∧ w.cell? ⟨b, o + 2, none⟩ = some (.bool q.srv) ∧ w.cell? ⟨b, o + 3, none⟩ = some (.bool q.flt) :=
  ⟨h 0 _ rfl, h 1 _ rfl, h 2 _ rfl, h 3 _ rfl⟩
theorem bod_eq (f g : BodD) (W : World) : (Op.equalIn 10000 34 (BV f) (BV g)).run Try.prog W = .ok (decide (f = g)) W := by
  have hz := Try.underlying34
  rw [run_equalIn_agg W 9999 _ _ _ (by kernel_rfl) (by kernel_rfl)]
  simp only [Program.fieldsOf, hz]
  simp [go_sem]
  obtain ⟨a0, a1, a2, a3⟩ := f
  obtain ⟨b0, b1, b2, b3⟩ := g
  simp only [BodD.mk.injEq]
  by_cases h0 : a0 = b0 <;> by_cases h1 : a1 = b1 <;> by_cases h2 : a2 = b2 <;> by_cases h3 : a3 = b3 <;> simp [h0, h1, h2, h3]
theorem guard_bod (op : BinOp) (x y : Operand) (xs ys : Array Value) (W : World) : (eqGuard op 34 x y (.agg xs) (.agg ys)).run Try.prog W = .ok () W := run_eqGuard_agg W _ _ _ _ _ _ (by kernel_rfl)
end Go.Proofs.Ytmdnkpiihhaoeaa
namespace Go.Proofs.Ytmdnkpiihhaoeaa
open Go Go.RowKit Fl

theorem below_newB (w : World) (o : Obj) : Below w.heap.size w (w.alloc o) := (Below.refl _ _).alloc (Nat.le_refl _) _
set_option maxRecDepth 100000 in
set_option maxHeartbeats 1000000 in
theorem refRest_c (b : BodD) (w : World) : Calls Try.prog 39 #[BV b] w fun e w' => e = .returned (.bool (restB b)) ∧ Below w.heap.size w w' := by
  have HB := Lib.hid (below_newB w (.cells (BC b) 34))
  obtain ⟨cel, dst, srv, flt⟩ := b
  obtain ⟨z, hz⟩ : ∃ z, restB ⟨cel, dst, srv, flt⟩ = z := ⟨_, rfl⟩
  rw [hz]
  have HZ : Hid (z = (cel != -1 && dst == -1 && !srv && !flt)) := Lib.hid hz.symm
  clear hz
  by_cases h1 : cel = -1
  · have HR : Hid (z = false) := Lib.hid (by rw [HZ.out]; simp [h1])
    have h1' : (cel != -1) = false := by simpa using h1
    clear HZ h1
    go_enter Try.func39, Try.ntmps39
    go_wp2
    go_ret
    exact ⟨gr_bool HR.out.symm, HB.out⟩
  · have h1' : (cel != -1) = true := by simpa using h1
    by_cases h2 : dst = -1
    · have h2' : (dst == -1) = true := by simpa using h2
      rcases srv with _ | _
      · rcases flt with _ | _
        · have HR : Hid (z = true) := Lib.hid (by rw [HZ.out]; simp [h1, h2])
          clear HZ h1 h2
          go_enter Try.func39, Try.ntmps39
          go_wp2
          go_ret
          exact ⟨gr_bool HR.out.symm, HB.out⟩
        · have HR : Hid (z = false) := Lib.hid (by rw [HZ.out]; simp)
          clear HZ h1 h2
          go_enter Try.func39, Try.ntmps39
          go_wp2
          go_ret
          exact ⟨gr_bool HR.out.symm, HB.out⟩
      · have HR : Hid (z = false) := Lib.hid (by rw [HZ.out]; simp)
        clear HZ h1 h2
        go_enter Try.func39, Try.ntmps39
        go_wp2
        go_ret
        exact ⟨gr_bool HR.out.symm, HB.out⟩
    · have h2' : (dst == -1) = false := by simpa using h2
      have HR : Hid (z = false) := Lib.hid (by rw [HZ.out]; simp [h2])
      clear HZ h1 h2
      go_enter Try.func39, Try.ntmps39
      go_wp2
      go_ret
      exact ⟨gr_bool HR.out.symm, HB.out⟩
end Go.Proofs.Ytmdnkpiihhaoeaa
namespace Go.Proofs.Ytmdnkpiihhaoeaa
open Go Go.RowKit Fl

/-- Block b holds a body. -/
def BodAt (w : World) (b : Nat) (q : BodD) : Prop := w.heap[b]? = some (.cells (BC q) 34 (0, 0))
theorem BodAt.new (w : World) (q : BodD) : BodAt (w.alloc (.cells (BC q) 34)) w.heap.size q := heap_alloc_new w _
theorem BodAt.keep {w w' : World} {b : Nat} {q : BodD} (h : BodAt w b q) (hb : Below w.heap.size w w') : BodAt w' b q := (hb.block b (block_lt h)).trans h
theorem BodAt.cell {w : World} {b : Nat} {q : BodD} (h : BodAt w b q) : w.cell? ⟨b, 0, none⟩ = some (.int .i64 q.cel) ∧ w.cell? ⟨b, 1, none⟩ = some (.int .i64 q.dst) ∧ w.cell? ⟨b, 2, none⟩ = some (.bool q.srv) ∧ w.cell? ⟨b, 3, none⟩ = some (.bool q.flt) := by
  unfold BodAt at h
  refine ⟨?_, ?_, ?_, ?_⟩ <;> rw [cell_of_row w b _ _ _ (0, 0) h] <;> rfl
theorem BodAt.frozen {w : World} {b : Nat} {q : BodD} (h : BodAt w b q) (i : Nat) : w.frozen? ⟨b, i, none⟩ = false := by
  unfold BodAt at h
  simp [World.frozen?, h]
theorem BodAt.put4 {w : World} {b : Nat} {g : BodD} (h : BodAt w b g) (f : BodD) : BodAt ((((w.setCell ⟨b, 0, none⟩ (.int .i64 f.cel)).setCell ⟨b, 1, none⟩ (.int .i64 f.dst)).setCell ⟨b, 2, none⟩ (.bool f.srv)).setCell ⟨b, 3, none⟩ (.bool f.flt)) b f := by
  unfold BodAt at h ⊢
  simp [World.setCell, Array.getElem?_modify, h]
theorem BodAt.far {w : World} {b X i : Nat} {q : BodD} {v : Value} (h : BodAt w b q) (hX : X ≠ b) : BodAt (w.setCell ⟨X, i, none⟩ v) b q := (Below.heap_setCell w ⟨X, i, none⟩ v b (fun e => hX e.symm)).trans h
theorem BodAt.far4 {w : World} {b X : Nat} {q : BodD} {v0 v1 v2 v3 : Value} (h : BodAt w b q) (hX : X ≠ b) : BodAt ((((w.setCell ⟨X, 0, none⟩ v0).setCell ⟨X, 1, none⟩ v1).setCell ⟨X, 2, none⟩ v2).setCell ⟨X, 3, none⟩ v3) b q := (((h.far hX).far hX).far hX).far hX
theorem results_bd {fn : Func} {p q : Tmp} (h : fn.results = #[.cell p 34, .tmp q]) (tmps : Array Value) (w : World) (g : Nat) (s : BodD) (u : Value)
    (hp : tmps.getD p undef = .pointer (some ⟨g, 0, none⟩)) (hg : BodAt w g s) (hu : tmps.getD q undef = u) :
    (results fn tmps).run Try.prog w = .ok (.tuple #[BV s, u]) w := by
  have hp' : tmps[p]?.getD undef = .pointer (some ⟨g, 0, none⟩) := by simpa using hp
  have hu' : tmps[q]?.getD undef = u := by simpa using hu
  simp [results, h, hp', hu', asAddr, run_loadVar_row w g 34 34 (BC s) (0, 0) _ hg Try.underlying34 rfl (by kernel_rfl)]
/-- Three new blocks: the last two hold bodies. -/
theorem three_bd (w : World) (o : Obj) (q r : BodD) : BodAt (((w.alloc o).alloc (.cells (BC q) 34)).alloc (.cells (BC r) 34)) (w.heap.size + 1 + 1) r ∧ BodAt (((w.alloc o).alloc (.cells (BC q) 34)).alloc (.cells (BC r) 34)) (w.heap.size + 1) q ∧ Below w.heap.size w (((w.alloc o).alloc (.cells (BC q) 34)).alloc (.cells (BC r) 34)) := by
  have h1 := BodAt.new ((w.alloc o).alloc (.cells (BC q) 34)) r
  have h2 := BodAt.new (w.alloc o) q
  rw [show ((w.alloc o).alloc (.cells (BC q) 34)).heap.size = w.heap.size + 1 + 1 by simp] at h1
  rw [show (w.alloc o).heap.size = w.heap.size + 1 by simp] at h2
  exact ⟨h1, h2.keep (below_newB _ _), ((below_newB w _).alloc (by simp) _).alloc (by simp; omega) _⟩
theorem StK.Own.blk {α : Type} {S : StK α} {w : World} {base : Nat} {v : Value} {l : List α} (h : S.Own w base v l) (hl : 0 < l.length) : ∃ g c, v = .slice (some ⟨g, 0, none⟩) l.length c ∧ base ≤ g ∧ g < w.heap.size := by
  obtain ⟨_, h2⟩ := h
  rcases h2 with ⟨_, he⟩ | ⟨g, cap, cur, hv, hg, hh, _⟩
  · omega
  · exact ⟨g, cap, hv, hg, block_lt hh⟩
theorem okB_all (fol : Bool) (b : BodD) (a : Int) : okB fol b a = true ∨ okB fol b a = false := by cases okB fol b a <;> simp
end Go.Proofs.Ytmdnkpiihhaoeaa

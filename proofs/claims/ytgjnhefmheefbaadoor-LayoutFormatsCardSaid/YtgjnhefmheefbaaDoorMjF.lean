/- Joined texts. -/
import Derived.Test.YtgjnhefmheefbaaDoorMjE
import Derived.Test.YtgjnhefmheefbaaDoorNtMem
import Derived.Test.YtgjnhefmheefbaaDoorMjC
import Derived.Test.YtgjnhefmheefbaaDoorNtValid
import Derived.BigRegion
import Derived.RegionTactic
import Derived.StillTailTactics
namespace Go.Proofs.YtgjnhefmheefbaaDoor
open Go Fl

def nmB (N : NetD) (i : Int) : List UInt8 := (N.blocks.map (·.name)).getD i.toNat []
def blockDc (b : BlockD) : DeclD := ⟨1, 0, [b.name], [b.x, b.y]⟩
def laneDc (N : NetD) (i : Nat) (t : Int) : DeclD := ⟨2, 0, [nmB N i, nmB N t], []⟩
def lanesTo (N : NetD) (k : Nat) : List DeclD := (List.range k).flatMap fun i => (N.next.getD i []).map (laneDc N i)
def spurDc (N : NetD) (s : SpurD) : DeclD := ⟨if s.depot then 4 else 3, 0, [s.name, nmB N s.inn, nmB N s.out], [s.slots]⟩
/-- The spur has the cell. -/
def inS (x : Int) (s : SpurD) : Bool := decide (s.base ≤ x) && decide (x < s.base + s.slots)
def robotDc (x : Int) (s : SpurD) : DeclD := ⟨5, 0, [s.name], [x - s.base + 1]⟩
def robotL (N : NetD) (x : Int) : List DeclD := (N.spurs.filter (inS x)).map (robotDc x)
def confDc (N : NetD) : DeclD := ⟨6, 0, [], [N.queue, N.aging, N.detours, N.patience]⟩
def rawDecls (N : NetD) : List DeclD := N.blocks.map blockDc ++ lanesTo N N.blocks.length ++ N.spurs.map (spurDc N) ++ N.robots.flatMap (robotL N) ++ [confDc N]
/-- The declarations get their lines, from n + 1 on. -/
def lineFrom : Nat → List DeclD → List DeclD
  | _, [] => []
  | n, d :: r => { d with line := (n : Int) + 1 } :: lineFrom (n + 1) r
def descD (N : NetD) : List DeclD := lineFrom 0 (rawDecls N)
theorem lineFrom_length : ∀ (l : List DeclD) (n : Nat), (lineFrom n l).length = l.length
  | [], _ => rfl
  | _ :: r, n => by simp [lineFrom, lineFrom_length r (n + 1)]
theorem lineFrom_append : ∀ (a b : List DeclD) (n : Nat), lineFrom n (a ++ b) = lineFrom n a ++ lineFrom (n + a.length) b
  | [], b, n => rfl
  | d :: a, b, n => by
    simp only [List.cons_append, lineFrom, List.length_cons]
    rw [lineFrom_append a b (n + 1), show n + 1 + a.length = n + (a.length + 1) by omega]
theorem lineFrom_mem : ∀ (l : List DeclD) (n : Nat) (d : DeclD), d ∈ lineFrom n l → ∃ e ∈ l, ∃ z : Int, d = { e with line := z } ∧ n + 1 ≤ z ∧ z ≤ n + l.length
  | [], _, _, h => by cases h
  | e :: r, n, d, h => by
    rcases List.mem_cons.1 h with rfl | h
    · exact ⟨e, by simp, _, rfl, by omega, by simp; omega⟩
    · obtain ⟨e', h1, z, h2, h3, h4⟩ := lineFrom_mem r (n + 1) d h
      exact ⟨e', by simp [h1], z, h2, by omega, by simp; omega⟩
theorem lineFrom_at : ∀ (l : List DeclD) (n k : Nat) (h : k < l.length), (lineFrom n l)[k]'(by rw [lineFrom_length]; exact h) = { l[k] with line := ((n + k : Nat) : Int) + 1 }
  | d :: r, n, 0, _ => rfl
  | d :: r, n, k + 1, h => by
    have := lineFrom_at r (n + 1) k (by simpa using h)
    simp only [lineFrom, List.getElem_cons_succ]
    rw [this, show n + 1 + k = n + (k + 1) by omega]
theorem lanesTo_succ (N : NetD) (k : Nat) : lanesTo N (k + 1) = lanesTo N k ++ (N.next.getD k []).map (laneDc N k) := by
  unfold lanesTo
  rw [List.range_succ, List.flatMap_append]
  simp
/-- The places of a valid network have names. -/
theorem nmB_mem {N : NetD} {i : Int} (h0 : 0 ≤ i) (h1 : i < N.blocks.length) : nmB N i ∈ namesN N := by
  unfold nmB namesN
  have hi : i.toNat < (N.blocks.map (·.name)).length := by simp; omega
  rw [List.getD_eq_getElem?_getD, List.getElem?_eq_getElem hi]
  exact List.mem_append_left _ (List.getElem_mem hi)
theorem nmB_at {N : NetD} {i : Nat} (h : i < N.blocks.length) : nmB N i = N.blocks[i].name := by
  unfold nmB
  rw [Int.toNat_natCast, List.getD_eq_getElem?_getD, List.getElem?_eq_getElem (by simpa using h)]
  simp
/-- A declaration of a valid network. -/
structure NetDc (N : NetD) (d : DeclD) : Prop where
  word : d.word = 1 ∧ d.names.length = 1 ∧ d.nums.length = 2 ∨ d.word = 2 ∧ d.names.length = 2 ∧ d.nums.length = 0 ∨ (d.word = 3 ∨ d.word = 4) ∧ d.names.length = 3 ∧ d.nums.length = 1 ∨ d.word = 5 ∧ d.names.length = 1 ∧ d.nums.length = 1 ∨ d.word = 6 ∧ d.names.length = 0 ∧ d.nums.length = 4
  names : ∀ s ∈ d.names, s ∈ namesN N
  nums : ∀ z ∈ d.nums, -9999 ≤ z ∧ z ≤ 9999
theorem NetDc.line {N : NetD} {d : DeclD} (h : NetDc N d) (z : Int) : NetDc N { d with line := z } := ⟨h.word, h.names, h.nums⟩
theorem NetDc.read {N : NetD} {d : DeclD} (hN : NetOk N) (h : NetDc N d) : ∃ k, ReadOk d k := by
  have hnm : d.names.all name = true := List.all_eq_true.2 (fun s hs => hN.named s (h.names s hs))
  have hrg : d.nums.all rangeB = true := List.all_eq_true.2 (fun z hz => by unfold rangeB; exact decide_eq_true (h.nums z hz))
  rcases h.word with ⟨h1, h2, h3⟩ | ⟨h1, h2, h3⟩ | ⟨h1 | h1, h2, h3⟩ | ⟨h1, h2, h3⟩ | ⟨h1, h2, h3⟩
  · exact ⟨1, h1, by omega, by omega, by rw [h2]; decide, by rw [h3]; rfl, hnm, hrg⟩
  · exact ⟨2, h1, by omega, by omega, by rw [h2]; decide, by rw [h3]; rfl, hnm, hrg⟩
  · exact ⟨3, h1, by omega, by omega, by rw [h2]; decide, by rw [h3]; rfl, hnm, hrg⟩
  · exact ⟨4, h1, by omega, by omega, by rw [h2]; decide, by rw [h3]; rfl, hnm, hrg⟩
  · exact ⟨5, h1, by omega, by omega, by rw [h2]; decide, by rw [h3]; rfl, hnm, hrg⟩
  · exact ⟨6, h1, by omega, by omega, by rw [h2]; decide, by rw [h3]; rfl, hnm, hrg⟩
theorem names_of_spur {N : NetD} {s : SpurD} (h : s ∈ N.spurs) : s.name ∈ namesN N := by
  unfold namesN; exact List.mem_append_right _ (List.mem_map_of_mem h)
theorem rawDecls_ok {N : NetD} (hN : NetOk N) : ∀ d ∈ rawDecls N, NetDc N d := by
  intro d hd
  unfold rawDecls at hd
  simp only [List.mem_append, List.mem_singleton] at hd
  rcases hd with (((hd | hd) | hd) | hd) | rfl
  · obtain ⟨b, hb, rfl⟩ := List.mem_map.1 hd
    have hp := hN.places b hb
    refine ⟨.inl ⟨rfl, rfl, rfl⟩, fun s hs => ?_, fun z hz => ?_⟩
    · obtain rfl : s = b.name := by simpa [blockDc] using hs
      unfold namesN; exact List.mem_append_left _ (List.mem_map_of_mem hb)
    · have : z = b.x ∨ z = b.y := by simpa [blockDc] using hz
      omega
  · unfold lanesTo at hd
    obtain ⟨i, hi, hd⟩ := List.mem_flatMap.1 hd
    obtain ⟨t, ht, rfl⟩ := List.mem_map.1 hd
    have hin : i < N.blocks.length := by simpa using hi
    have hl := hN.lanes
    have hin2 : i < N.next.length := by omega
    rw [List.getD_eq_getElem?_getD, List.getElem?_eq_getElem hin2] at ht
    have hr := validG_row hN.graph hin2 t ht
    refine ⟨.inr (.inl ⟨rfl, rfl, rfl⟩), fun s hs => ?_, fun z hz => by simp [laneDc] at hz⟩
    have : s = nmB N i ∨ s = nmB N t := by simpa [laneDc] using hs
    rcases this with rfl | rfl
    · exact nmB_mem (by omega) (by omega)
    · exact nmB_mem hr.1 (by have := hr.2.1; omega)
  · obtain ⟨s, hs, rfl⟩ := List.mem_map.1 hd
    have ho := hN.spurOk s hs
    refine ⟨.inr (.inr (.inl ⟨by unfold spurDc; cases s.depot <;> simp, rfl, rfl⟩)), fun x hx => ?_, fun z hz => ?_⟩
    · have : x = s.name ∨ x = nmB N s.inn ∨ x = nmB N s.out := by simpa [spurDc] using hx
      rcases this with rfl | rfl | rfl
      · exact names_of_spur hs
      · exact nmB_mem ho.inn.1 ho.inn.2
      · exact nmB_mem ho.out.1 ho.out.2
    · obtain rfl : z = s.slots := by simpa [spurDc] using hz
      have := ho.slots; omega
  · obtain ⟨x, hx, hd⟩ := List.mem_flatMap.1 hd
    obtain ⟨s, hs, rfl⟩ := List.mem_map.1 hd
    obtain ⟨hs1, hs2⟩ := List.mem_filter.1 hs
    have ho := hN.spurOk s hs1
    refine ⟨.inr (.inr (.inr (.inl ⟨rfl, rfl, rfl⟩))), fun y hy => ?_, fun z hz => ?_⟩
    · obtain rfl : y = s.name := by simpa [robotDc] using hy
      exact names_of_spur hs1
    · obtain rfl : z = x - s.base + 1 := by simpa [robotDc] using hz
      simp only [inS, Bool.and_eq_true, decide_eq_true_eq] at hs2
      have := ho.slots; omega
  · refine ⟨.inr (.inr (.inr (.inr ⟨rfl, rfl, rfl⟩))), fun s hs => by simp [confDc] at hs, fun z hz => ?_⟩
    have : z = N.queue ∨ z = N.aging ∨ z = N.detours ∨ z = N.patience := by simpa [confDc] using hz
    obtain ⟨⟨a1, a2⟩, ⟨b1, b2⟩, ⟨c1, c2⟩, d1, d2⟩ := hN.conf
    omega
theorem descD_ok {N : NetD} (hN : NetOk N) : ∀ d ∈ descD N, NetDc N d := fun d hd => by
  obtain ⟨e, he, z, rfl, _⟩ := lineFrom_mem _ _ _ hd
  exact (rawDecls_ok hN e he).line z
theorem descD_read {N : NetD} (hN : NetOk N) : ∀ d ∈ descD N, ∃ k, ReadOk d k := fun d hd => (descD_ok hN d hd).read hN
theorem NetDc.small {N : NetD} {d : DeclD} (h : NetDc N d) : d.names.length ≤ 3 ∧ d.nums.length ≤ 4 ∧ d.names.length + d.nums.length ≤ 4 := by
  rcases h.word with ⟨_, h2, h3⟩ | ⟨_, h2, h3⟩ | ⟨_, h2, h3⟩ | ⟨_, h2, h3⟩ | ⟨_, h2, h3⟩ <;> omega
theorem descD_fmt {N : NetD} (hN : NetOk N) : ∀ d ∈ descD N, FmtOk d := fun d hd => by
  have h := descD_ok hN d hd
  obtain ⟨k, hk⟩ := h.read hN
  obtain ⟨h1, h2, _⟩ := h.small
  exact ⟨hk.valid, by omega, by omega, fun z hz => by have := h.nums z hz; omega⟩
theorem parse_desc {N : NetD} (hN : NetOk N) : parseT ((descD N).map lineOf) = .ok (descD N) := by
  have := parseA_back (descD N) [] (descD_read hN)
  simpa [parseT] using this
end Go.Proofs.YtgjnhefmheefbaaDoor
namespace Go.Proofs.YtgjnhefmheefbaaDoor
open Go Go.RowKit Fl

theorem own_at4 {w : World} {base n : Nat} {e : TypeId} {v : Value} {xs : List Value} (h : w.ownsRow base e 4 v n xs) (hn : 0 < n) : ∃ g cap, v = .slice (some ⟨g, 0, none⟩) n cap ∧ base ≤ g := by
  obtain ⟨h1, h2⟩ := h
  rcases h2 with ⟨_, h0⟩ | ⟨g, cap, cur, hv, hg, hh, hnc, _⟩
  · omega
  · exact ⟨g, cap, hv, hg⟩
theorem own_put4 {w : World} {base g n cap i : Nat} {e : TypeId} {xs : List Value} {v : Value} (h : w.ownsRow base e 4 (.slice (some ⟨g, 0, none⟩) n cap) n xs) : (w.setCell ⟨g, i, none⟩ v).ownsRow base e 4 (.slice (some ⟨g, 0, none⟩) n cap) n (xs.set i v) := by
  obtain ⟨h1, h2⟩ := h
  rcases h2 with ⟨hv, _⟩ | ⟨g', cap', cur, hv, hg, hh, hnc, hcm, hcs, hx⟩
  · cases hv
  · injection hv with hA _ hc
    injection hA with hA
    injection hA with hA
    subst hA hc
    refine ⟨by simpa using h1, .inr ⟨g, cap, cur.setIfInBounds i v, rfl, hg, ?_, hnc, hcm, by simpa using hcs, ?_⟩⟩
    · simp [World.setCell, Array.getElem?_modify]
      exact ⟨_, hh, by simp⟩
    · rw [← hx]; simp [List.take_set]
theorem own_get4 {w : World} {base n g cap i : Nat} {e : TypeId} {xs : List Value} (h : w.ownsRow base e 4 (.slice (some ⟨g, 0, none⟩) n cap) n xs) {u : Value} (hu : xs[i]? = some u) : w.cell? ⟨g, i, none⟩ = some u ∧ w.frozen? ⟨g, i, none⟩ = false ∧ ∃ cur, w.heap[g]? = some (.cells cur e (0, 0)) := by
  obtain ⟨h1, h2⟩ := h
  rcases h2 with ⟨hv, _⟩ | ⟨g', cap', cur, hv, hg, hh, hnc, hcm, hcs, hx⟩
  · cases hv
  · injection hv with hA _ hc
    injection hA with hA
    injection hA with hA
    subst hA hc
    refine ⟨?_, by simp [World.frozen?, hh], _, hh⟩
    rw [cell_of_row w g i cur e (0, 0) hh]
    subst hx
    rw [List.getElem?_take] at hu
    split at hu
    · simpa using hu
    · cases hu
theorem declCells_set : ∀ (ds : List DeclD) (fvs : List (Value × Value)) (k : Nat) (d : DeclD) (z : Int), fvs.length = ds.length → ds[k]? = some d → (declCells ds fvs).set (k * 4 + 1) (.int .i64 z) = declCells (ds.set k { d with line := z }) fvs
  | a :: ds, b :: fvs, 0, d, z, _, h => by
    obtain rfl : a = d := by simpa using h
    rfl
  | a :: ds, b :: fvs, k + 1, d, z, hl, h => by
    have := declCells_set ds fvs k d z (by simpa using hl) (by simpa using h)
    simp only [declCells, List.set_cons_succ, show (k + 1) * 4 + 1 = k * 4 + 1 + 1 + 1 + 1 + 1 by omega]
    rw [this]
  | [], _, k, _, _, _, h => by simp at h
  | _ :: _, [], _, _, _, hl, _ => by simp at hl
theorem DeclsOwn.line_at {w : World} {base g n cap : Nat} {ds : List DeclD} (h : DeclsOwn w base (.slice (some ⟨g, 0, none⟩) n cap) ds) {i : Nat} (hi : i < ds.length) : w.cell? ⟨g, i * 4 + 1, none⟩ = some (.int .i64 ds[i].line) ∧ w.frozen? ⟨g, i * 4 + 1, none⟩ = false := by
  obtain ⟨fvs, hl, hown, hf⟩ := h
  obtain ⟨_, _, hv⟩ := own_slice hown
  injection hv with _ hn _
  subst hn
  obtain ⟨fv, _, _, g3, _⟩ := declCells_at ds fvs i hl hi
  exact ⟨(own_get4 hown g3).1, (own_get4 hown g3).2.1⟩
theorem DeclsOwn.setLine {w : World} {base g n cap : Nat} {ds : List DeclD} (h : DeclsOwn w base (.slice (some ⟨g, 0, none⟩) n cap) ds) {i : Nat} {d : DeclD} (hd : ds[i]? = some d) (z : Int) : DeclsOwn (w.setCell ⟨g, i * 4 + 1, none⟩ (.int .i64 z)) base (.slice (some ⟨g, 0, none⟩) n cap) (ds.set i { d with line := z }) := by
  obtain ⟨fvs, hl, hown, hf⟩ := h
  obtain ⟨_, _, hv⟩ := own_slice hown
  injection hv with _ hn _
  subst hn
  obtain ⟨hi, rfl⟩ := List.getElem?_eq_some_iff.1 hd
  obtain ⟨fv, _, _, g3, _⟩ := declCells_at ds fvs i hl hi
  obtain ⟨_, _, cur, hX⟩ := own_get4 hown g3
  have hg : w.grownBy (w.setCell ⟨g, i * 4 + 1, none⟩ (.int .i64 z)) (some g) := ⟨rfl, rfl, rfl, by simp [World.setCell], fun k _ hne => Below.heap_setCell w ⟨g, i * 4 + 1, none⟩ _ k (fun e => hne (by rw [e]))⟩
  refine ⟨fvs, by simpa using hl, ?_, fun j fv e g1 g2 => ?_⟩
  · rw [← declCells_set ds fvs i _ z hl hd, List.length_set]
    exact own_put4 hown
  · obtain ⟨e', he', hn, hm⟩ : ∃ e', ds[j]? = some e' ∧ e.names = e'.names ∧ e.nums = e'.nums := by
      by_cases hij : i = j
      · subst hij
        rw [List.getElem?_set_self (by simpa using hi)] at g2
        injection g2 with g2
        subst g2
        exact ⟨_, hd, rfl, rfl⟩
      · rw [List.getElem?_set_ne hij] at g2
        exact ⟨e, g2, rfl, rfl⟩
    rw [hn, hm]
    obtain ⟨h1, h2⟩ := hf j fv e' g1 he'
    exact ⟨ownsRow_grownB h1 hg hX (by decide), ownsRow_grownB h2 hg hX (by decide)⟩
theorem line_len (R : List DeclD) (i : Nat) : (lineFrom 0 (R.take i) ++ R.drop i).length = R.length := by
  rw [List.length_append, lineFrom_length, ← List.length_append, List.take_append_drop]
theorem line_get (R : List DeclD) {i : Nat} (h : i < R.length) : (lineFrom 0 (R.take i) ++ R.drop i)[i]? = some R[i] := by
  rw [List.getElem?_append_right (by rw [lineFrom_length, List.length_take]; omega), lineFrom_length, List.length_take, Nat.min_eq_left (by omega), Nat.sub_self, List.getElem?_drop, Nat.add_zero, List.getElem?_eq_getElem h]
theorem line_step (R : List DeclD) {i : Nat} (h : i < R.length) : (lineFrom 0 (R.take i) ++ R.drop i).set i { R[i] with line := (i : Int) + 1 } = lineFrom 0 (R.take (i + 1)) ++ R.drop (i + 1) := by
  have hl : (lineFrom 0 (R.take i)).length = i := by rw [lineFrom_length, List.length_take]; omega
  rw [List.set_append_right _ _ (by omega), hl, Nat.sub_self, List.drop_eq_getElem_cons h, List.set_cons_zero, List.take_succ_eq_append_getElem h, lineFrom_append, List.length_take, Nat.min_eq_left (by omega), List.append_assoc]
  simp [lineFrom]
end Go.Proofs.YtgjnhefmheefbaaDoor
namespace Go.Proofs.YtgjnhefmheefbaaDoor
open Go Go.RowKit Fl
attribute [local go_sem] bget

/-- A literal's row is the call's own. -/
theorem own_litE {W : World} {e : TypeId} (cs : Array Value) (n q base : Nat) (xs : List Value) (hq : q = W.heap.size) (hb : base ≤ q) (hn : cs.size = n) (hx : cs.toList = xs) (hm : n ≤ 1000000) : (W.alloc (.cells cs e)).ownsRow base e 1 (.slice (some ⟨q, 0, none⟩) n n) n xs := by
  subst hq hn hx
  exact ⟨by simp, .inr ⟨W.heap.size, cs.size, cs, rfl, hb, heap_alloc_new W _, Nat.le_refl _, by unfold maxLen; omega, by simp, by rw [Nat.mul_one]; exact List.take_of_length_le (by simp)⟩⟩
section
variable {ops : Array Oper} {rest : List Oper} {o : Oper} {a : Act} {Q : Exit → Act → World → Prop}
/-- append of a declaration whose names and numbers lie in rows of the call's own. -/
theorem app_decl (w : World) (hgd : o.guard = none) (s x : Operand) (ho : o.op = .call { callee := .builtin .append, args := #[s, x], argTypes := #[22, 22] }) (base : Nat) (v : Value) (ds : List DeclD) (d : DeclD) (nv xv : Value) (hs : a.eval s = v) (hown : DeclsOwn w base v ds)
    (h1 : w.ownsRow base 9 1 nv d.names.length (d.names.map S)) (h2 : w.ownsRow base 3 1 xv d.nums.length (d.nums.map I)) (q : Nat) (hq : q = w.heap.size) (hx : a.eval x = .slice (some ⟨q, 0, none⟩) 1 1) (hn : ds.length ≤ 1000000) (hbase : base ≤ w.heap.size)
    (hn1 : nv.oneCell' = true) (hx1 : xv.oneCell' = true)
    (h : ∀ v' w', DeclsOwn w' base v' (ds ++ [d]) → Below base w w' → w.heap.size ≤ w'.heap.size → wpList Tryd.prog ops Q rest (a.put o.dst v') w') : wpList Tryd.prog ops Q (o :: rest) a (w.alloc (.cells #[.int .i64 d.word, .int .i64 d.line, nv, xv] 47)) := by
  subst hq
  obtain ⟨fvs, hfl, hown, hfv⟩ := hown
  obtain ⟨i0, hi, hz0, hz1, hz2⟩ := info_parts Tryd.infoDecl
  refine wpList_append_own _ hgd s x 22 ho base 47 i0 (.agg #[.int .i64 0, .int .i64 0, .slice none 0 0, .slice none 0 0]) 4 64 Tryd.underlying22 hi hz0 hz1 hz2 rfl (by decide) _ _ _ hs (hown.alloc _) ⟨w.heap.size, 0, none⟩ 1 1 [.int .i64 d.word, .int .i64 d.line, nv, xv] hx rfl ?_ ?_ ?_ ?_ ?_ ?_
  · intro j u hu
    rw [show (⟨w.heap.size, 0, none⟩ : Addr).add j = ⟨w.heap.size, j, none⟩ by unfold Addr.add; split <;> simp_all, cell_of_row _ _ j _ _ _ (heap_alloc_new w _)]
    rcases j with _ | _ | _ | _ | j
    · simpa using hu
    · simpa using hu
    · simpa using hu
    · simpa using hu
    · simp at hu
  · intro u hu
    simp at hu
    rcases hu with rfl | rfl | rfl | rfl
    · rfl
    · rfl
    · exact hn1
    · exact hx1
  · unfold maxLen; omega
  · omega
  · simp; omega
  · intro v' w3 own3 hg3 _
    refine h v' w3 (DeclsOwn.snoc hfl hown hfv h1 h2 hg3 own3) (((Below.refl base w).alloc hbase _).grown hg3 (by simp; omega) (own_base hown)) (by have := hg3.size; simp at this; omega)
end
theorem validNet_q (Ab An As Ar : Option Addr) (cb cn cs cr : Nat) (N : NetD) (w : World) (hN : NetAt w Ab An As Ar N) (hok : NetOk N) (hcr : N.robots.length ≤ cr) (W : World) (hW : Below w.heap.size w W) :
    Calls Tryd.prog 18 #[.agg #[.slice Ab N.blocks.length cb, .slice An N.next.length cn, .slice As N.spurs.length cs, .slice Ar N.robots.length cr, Iv N.queue, Iv N.aging, Iv N.detours, Iv N.patience]] W fun e w' => e = .returned (.bool true) ∧ Below W.heap.size W w' :=
  validNet_c Ab An As Ar cb cn cs cr N W (hN.keep hW) hok hcr
theorem DeclsOwn.snoc2 {w w3 : World} {base : Nat} {v v' nv xv : Value} {ds : List DeclD} {d : DeclD} {fvs : List (Value × Value)}
    (hl : fvs.length = ds.length) (hown : w.ownsRow base 47 4 v ds.length (declCells ds fvs))
    (hf : ∀ (i : Nat) (fv : Value × Value) (d : DeclD), fvs[i]? = some fv → ds[i]? = some d → w.ownsRow base 9 1 fv.1 d.names.length (d.names.map S) ∧ w.ownsRow base 3 1 fv.2 d.nums.length (d.nums.map I))
    (h1 : w.ownsRow base 9 1 nv d.names.length (d.names.map S)) (h2 : w.ownsRow base 3 1 xv d.nums.length (d.nums.map I))
    (hg : w.grownBy w3 v.ownBlock) (h3 : w3.ownsRow base 47 4 v' (ds.length + 1) (declCells ds fvs ++ [.int .i64 d.word, .int .i64 d.line, nv, xv])) :
    DeclsOwn w3 base v' (ds ++ [d]) := by
  refine ⟨fvs ++ [(nv, xv)], by simp [hl], by rw [declCells_snoc ds fvs _ _ hl]; simpa using h3, fun i fv e g1 g2 => ?_⟩
  have keep1 : ∀ {fv : Value} {ss : List (List UInt8)}, w.ownsRow base 9 1 fv ss.length (ss.map S) → w3.ownsRow base 9 1 fv ss.length (ss.map S) := fun h => ownsRow_apart h hown (by decide) hg
  have keep2 : ∀ {fv : Value} {ss : List Int}, w.ownsRow base 3 1 fv ss.length (ss.map I) → w3.ownsRow base 3 1 fv ss.length (ss.map I) := fun h => ownsRow_apart h hown (by decide) hg
  rcases Nat.lt_or_ge i ds.length with hi | hi
  · rw [List.getElem?_append_left (by omega)] at g1 g2
    exact ⟨keep1 (hf i fv e g1 g2).1, keep2 (hf i fv e g1 g2).2⟩
  · rw [List.getElem?_append_right (by omega)] at g1 g2
    have hi0 : i - ds.length = 0 := by
      rcases Nat.eq_zero_or_pos (i - ds.length) with h | h
      · exact h
      · rw [List.getElem?_eq_none (by simp; omega)] at g2; cases g2
    rw [hl, hi0] at g1
    rw [hi0] at g2
    simp at g1 g2
    subst g1 g2
    exact ⟨keep1 h1, keep2 h2⟩
/-- A declaration is appended at a step of a region that draws its order. -/
theorem step_decl {ops : Array Oper} {o : Oper} {a : Act} {K : Act → World → Prop} {Q : Exit → Act → World → Prop} {E : Prop} (w : World) (hgd : o.guard = none) (s x : Operand) (ho : o.op = .call { callee := .builtin .append, args := #[s, x], argTypes := #[22, 22] }) (base : Nat) (v : Value) (ds : List DeclD) (d : DeclD) (nv xv : Value) (hs : a.eval s = v) (hown : DeclsOwn w base v ds)
    (h1 : w.ownsRow base 9 1 nv d.names.length (d.names.map S)) (h2 : w.ownsRow base 3 1 xv d.nums.length (d.nums.map I)) (q : Nat) (hq : w.heap[q]? = some (.cells #[.int .i64 d.word, .int .i64 d.line, nv, xv] 47 (0, 0))) (hx : a.eval x = .slice (some ⟨q, 0, none⟩) 1 1) (hn : ds.length ≤ 1000000) (hbase : base ≤ w.heap.size)
    (hn1 : nv.oneCell' = true) (hx1 : xv.oneCell' = true)
    (h : ∀ v' w', DeclsOwn w' base v' (ds ++ [d]) → Below base w w' → w.heap.size ≤ w'.heap.size → K (a.put o.dst v') w') : if Region.wanted o (yielded ops a.tmps) = true then Oper.wp Tryd.prog o a w K Q else E := by
  obtain ⟨fvs, hfl, hown, hfv⟩ := hown
  obtain ⟨i0, hi, hz0, hz1, hz2⟩ := info_parts Tryd.infoDecl
  refine step_append_lies w hgd s x 22 ho base 47 i0 (.agg #[.int .i64 0, .int .i64 0, .slice none 0 0, .slice none 0 0]) 4 64 Tryd.underlying22 hi hz0 hz1 hz2 rfl (by decide) _ _ _ hs hown ⟨q, 0, none⟩ 1 1 [.int .i64 d.word, .int .i64 d.line, nv, xv] hx rfl ?_ ?_ (by decide) ?_ ?_ hbase _ rfl ?_
  · intro j u hu
    rw [show (⟨q, 0, none⟩ : Addr).add j = ⟨q, j, none⟩ by unfold Addr.add; split <;> simp_all, cell_of_row _ _ j _ _ _ hq]
    rcases j with _ | _ | _ | _ | j
    · simpa using hu
    · simpa using hu
    · simpa using hu
    · simpa using hu
    · simp at hu
  · intro u hu
    simp at hu
    rcases hu with rfl | rfl | rfl | rfl
    · rfl
    · rfl
    · exact hn1
    · exact hx1
  · unfold maxLen; omega
  · omega
  · intro g cap w3 own3 hg3 _ _
    exact h _ w3 (DeclsOwn.snoc2 hfl hown hfv h1 h2 hg3 own3) ((Below.refl base w).grown hg3 hbase (own_base hown)) hg3.size
/-- .. and blocks of other types stay. -/
theorem step_declK {ops : Array Oper} {o : Oper} {a : Act} {K : Act → World → Prop} {Q : Exit → Act → World → Prop} {E : Prop} (w : World) (hgd : o.guard = none) (s x : Operand) (ho : o.op = .call { callee := .builtin .append, args := #[s, x], argTypes := #[22, 22] }) (base : Nat) (v : Value) (ds : List DeclD) (d : DeclD) (nv xv : Value) (hs : a.eval s = v) (hown : DeclsOwn w base v ds)
    (h1 : w.ownsRow base 9 1 nv d.names.length (d.names.map S)) (h2 : w.ownsRow base 3 1 xv d.nums.length (d.nums.map I)) (q : Nat) (hq : w.heap[q]? = some (.cells #[.int .i64 d.word, .int .i64 d.line, nv, xv] 47 (0, 0))) (hx : a.eval x = .slice (some ⟨q, 0, none⟩) 1 1) (hn : ds.length ≤ 1000000) (hbase : base ≤ w.heap.size)
    (hn1 : nv.oneCell' = true) (hx1 : xv.oneCell' = true)
    (h : ∀ v' w', DeclsOwn w' base v' (ds ++ [d]) → Below base w w' → (∀ (k : Nat) (cs : Array Value) (t : TypeId) (fz : Nat × Nat), w.heap[k]? = some (Obj.cells cs t fz) → 47 ≠ t → w'.heap[k]? = some (Obj.cells cs t fz)) → K (a.put o.dst v') w') : if Region.wanted o (yielded ops a.tmps) = true then Oper.wp Tryd.prog o a w K Q else E := by
  obtain ⟨fvs, hfl, hown, hfv⟩ := hown
  obtain ⟨i0, hi, hz0, hz1, hz2⟩ := info_parts Tryd.infoDecl
  refine step_append_lies w hgd s x 22 ho base 47 i0 (.agg #[.int .i64 0, .int .i64 0, .slice none 0 0, .slice none 0 0]) 4 64 Tryd.underlying22 hi hz0 hz1 hz2 rfl (by decide) _ _ _ hs hown ⟨q, 0, none⟩ 1 1 [.int .i64 d.word, .int .i64 d.line, nv, xv] hx rfl ?_ ?_ (by decide) ?_ ?_ hbase _ rfl ?_
  · intro j u hu
    rw [show (⟨q, 0, none⟩ : Addr).add j = ⟨q, j, none⟩ by unfold Addr.add; split <;> simp_all, cell_of_row _ _ j _ _ _ hq]
    rcases j with _ | _ | _ | _ | j
    · simpa using hu
    · simpa using hu
    · simpa using hu
    · simpa using hu
    · simp at hu
  · intro u hu
    simp at hu
    rcases hu with rfl | rfl | rfl | rfl
    · rfl
    · rfl
    · exact hn1
    · exact hx1
  · unfold maxLen; omega
  · omega
  · intro g cap w3 own3 hg3 _ _
    exact h _ w3 (DeclsOwn.snoc2 hfl hown hfv h1 h2 hg3 own3) ((Below.refl base w).grown hg3 hbase (own_base hown)) (fun k cs t fz hk ht => (hg3.block k (block_lt hk) (fun e => own_ne_block hown hk ht e.symm)).trans hk)
theorem below_new2 (w : World) (o : Obj) : Below w.heap.size w (w.alloc o) := (Below.refl _ _).alloc (Nat.le_refl _) _
theorem alloc_cell2 {w : World} {n i : Nat} {u : Value} (h : w.cell? ⟨n, i, none⟩ = some u) (o : Obj) : (w.alloc o).cell? ⟨n, i, none⟩ = some u :=
  ((below_new2 w o).cell (p := ⟨n, i, none⟩) (World.block_lt_of_cell? _ _ h)).trans h
/-- Three new blocks, one after the other. -/
theorem look3 (w : World) (o1 o2 o3 : Obj) : (((w.alloc o1).alloc o2).alloc o3).drew.heap[w.heap.size]? = some o1 ∧ (((w.alloc o1).alloc o2).alloc o3).drew.heap[w.heap.size + 1]? = some o2 ∧ (((w.alloc o1).alloc o2).alloc o3).drew.heap[w.heap.size + 1 + 1]? = some o3 := by
  have h1 := heap_alloc_new w o1
  have h2 := heap_alloc_new (w.alloc o1) o2
  have h3 := heap_alloc_new ((w.alloc o1).alloc o2) o3
  rw [show (w.alloc o1).heap.size = w.heap.size + 1 by simp] at h2
  rw [show ((w.alloc o1).alloc o2).heap.size = w.heap.size + 1 + 1 by simp] at h3
  refine ⟨?_, ?_, h3⟩
  · exact (Below.heap_alloc ((w.alloc o1).alloc o2) o3 _ (by simp; omega)).trans ((Below.heap_alloc (w.alloc o1) o2 _ (by simp)).trans h1)
  · exact (Below.heap_alloc ((w.alloc o1).alloc o2) o3 _ (by simp)).trans h2
theorem own_heap {W : World} {e : TypeId} {cs : Array Value} {n q base : Nat} {xs : List Value} (h : W.heap[q]? = some (.cells cs e (0, 0))) (hb : base ≤ q) (hn : cs.size = n) (hx : cs.toList = xs) (hm : n ≤ 1000000) : W.ownsRow base e 1 (.slice (some ⟨q, 0, none⟩) n n) n xs := by
  subst hn hx
  exact ⟨by simp, .inr ⟨q, cs.size, cs, rfl, hb, h, Nat.le_refl _, by unfold maxLen; omega, by simp, by rw [Nat.mul_one]; exact List.take_of_length_le (by simp)⟩⟩
/-- A new declaration's block, before and after its word is stored anew. -/
theorem word_put {w wc : World} {X : Nat} {nv xv : Value} {ns : List Value} {xs : List Value} {base : Nat} (hX : wc.heap[X]? = some (.cells #[.int .i64 3, .int .i64 0, nv, xv] 47 (0, 0))) (hq : w.heap.size ≤ X) (hn : wc.ownsRow base 9 1 nv ns.length ns) (hx : wc.ownsRow base 3 1 xv xs.length xs) (hb : Below w.heap.size w wc) (v : Value) :
    (wc.setCell ⟨X, 0, none⟩ v).heap[X]? = some (.cells #[v, .int .i64 0, nv, xv] 47 (0, 0)) ∧ (wc.setCell ⟨X, 0, none⟩ v).ownsRow base 9 1 nv ns.length ns ∧ (wc.setCell ⟨X, 0, none⟩ v).ownsRow base 3 1 xv xs.length xs ∧ Below w.heap.size w (wc.setCell ⟨X, 0, none⟩ v) := by
  have hg : wc.grownBy (wc.setCell ⟨X, 0, none⟩ v) (some X) := ⟨rfl, rfl, rfl, by simp [World.setCell], fun k _ hne => Below.heap_setCell wc ⟨X, 0, none⟩ v k (fun e => hne (by rw [e]))⟩
  refine ⟨?_, ownsRow_grownB hn hg hX (by decide), ownsRow_grownB hx hg hX (by decide), below_put hb hq⟩
  simp [World.setCell, Array.getElem?_modify, hX]
theorem decl_cells {w : World} {X : Nat} {a b c d : Value} {fz : Nat × Nat} (h : w.heap[X]? = some (.cells #[a, b, c, d] 47 fz)) : w.cell? ⟨X, 0, none⟩ = some a ∧ w.cell? ⟨X, 1, none⟩ = some b ∧ w.cell? ⟨X, 2, none⟩ = some c ∧ w.cell? ⟨X, 3, none⟩ = some d := by
  refine ⟨?_, ?_, ?_, ?_⟩ <;> rw [cell_of_row w X _ _ _ fz h] <;> rfl
theorem take_map_succ {α β : Type} (f : α → β) (l : List α) {k : Nat} (h : k < l.length) : (l.map f).take (k + 1) = (l.map f).take k ++ [f l[k]] := by
  rw [List.take_succ_eq_append_getElem (by simpa using h)]; simp
theorem lanesTo_len {N : NetD} (h : NetOk N) : ∀ k, k ≤ N.next.length → (lanesTo N k).length ≤ 4 * k
  | 0, _ => by simp [lanesTo]
  | k + 1, hk => by
    rw [lanesTo_succ, List.length_append, List.length_map, List.getD_eq_getElem?_getD, List.getElem?_eq_getElem (show k < N.next.length by omega)]
    have := lanesTo_len h k (by omega)
    have := h.outs _ (List.getElem_mem (show k < N.next.length by omega))
    simp only [Option.getD_some]
    omega
theorem lanes_small {N : NetD} (h : NetOk N) {k j : Nat} {L : List DeclD} (hk : k ≤ N.next.length) (hL : L.length ≤ 1000) : (N.blocks.map blockDc ++ lanesTo N k ++ L.take j).length ≤ 1000000 := by
  have := lanesTo_len h k hk
  have := h.few
  have := h.lanes
  simp only [List.length_append, List.length_map, List.length_take]
  omega
theorem take_flat_succ {α β : Type} (f : α → List β) (l : List α) {k : Nat} (h : k < l.length) : (l.take (k + 1)).flatMap f = (l.take k).flatMap f ++ f l[k] := by
  rw [List.take_succ_eq_append_getElem h, List.flatMap_append]; simp
theorem spur_bound {N : NetD} (h : NetOk N) {k : Nat} (hk : k < N.spurs.length) : 0 ≤ N.spurs[k].base ∧ N.spurs[k].base ≤ 100 ∧ 1 ≤ N.spurs[k].slots ∧ N.spurs[k].slots ≤ 4 := by
  have h1 := h.bases k hk
  have h2 := slotsK_bounds (l := N.spurs) (fun s hs => by have := (h.spurOk s hs).slots; omega) k (by omega)
  have h3 := (h.spurOk _ (List.getElem_mem hk)).slots
  have := h.few
  have := h.spurs6
  omega
theorem robot_bound {N : NetD} (h : NetOk N) {x : Int} (hx : x ∈ N.robots) : 0 ≤ x ∧ x ≤ 200 := by
  obtain ⟨s, hs, _, h1, h2⟩ := h.homes x hx
  obtain ⟨k, hk, rfl⟩ := List.mem_iff_getElem.1 hs
  have := spur_bound h hk
  omega
theorem robots_len (N : NetD) : ∀ l : List Int, (l.flatMap (robotL N)).length ≤ l.length * N.spurs.length
  | [] => by simp
  | x :: r => by
    have := robots_len N r
    have h2 := List.length_filter_le (inS x) N.spurs
    rw [List.flatMap_cons, List.length_append, List.length_cons, Nat.succ_mul]
    unfold robotL at *
    rw [List.length_map]
    omega
theorem filter_succ {l : List SpurD} (x : Int) {k : Nat} (h : k < l.length) : ((l.take (k + 1)).filter (inS x)).map (robotDc x) = ((l.take k).filter (inS x)).map (robotDc x) ++ (if inS x l[k] then [robotDc x l[k]] else []) := by
  rw [List.take_succ_eq_append_getElem h, List.filter_append, List.map_append]
  congr 1
  by_cases hi : inS x l[k] = true
  · rw [if_pos hi]; simp [hi]
  · rw [if_neg hi]; simp [hi]
def DescPost (N : NetD) (w : World) (e : Ending) (w' : World) : Prop := ∃ v, e = .returned (.tuple #[v, .int .i64 0]) ∧ DeclsOwn w' w.heap.size v (descD N) ∧ Below w.heap.size w w'
set_option maxRecDepth 100000 in
set_option maxHeartbeats 8000000 in
theorem refDesc_c (Ab An As Ar : Option Addr) (cb cn cs cr : Nat) (N : NetD) (w : World) (hN : NetAt w Ab An As Ar N) (hok : NetOk N) (hcr : N.robots.length ≤ cr) :
    Calls Tryd.prog 6 #[.agg #[.slice Ab N.blocks.length cb, .slice An N.next.length cn, .slice As N.spurs.length cs, .slice Ar N.robots.length cr, Iv N.queue, Iv N.aging, Iv N.detours, Iv N.patience]] w (DescPost N w) := by
  have CV := Lib.hid (validNet_q Ab An As Ar cb cn cs cr N w hN hok hcr)
  have HN := Lib.hid hN
  have HOk := Lib.hid hok
  have h24 := hok.few
  have h6 := hok.spurs6
  have h8 := hok.robots8
  have HLn := Lib.hid hok.lanes
  have hB0 : Below w.heap.size w (w.alloc (.cells (netCells Ab An As Ar cb cn cs cr N) 31)) := (Below.refl _ _).alloc (Nat.le_refl _) _
  have hX0 := boxAt_of (heap_alloc_new w (.cells (netCells Ab An As Ar cb cn cs cr N) 31))
  have hsz0 : w.heap.size < (w.alloc (.cells (netCells Ab An As Ar cb cn cs cr N) 31)).heap.size := by simp
  have HX := Lib.hid hX0
  obtain ⟨x0, x1, x2, x3, x4, x5, x6, x7⟩ := hX0
  clear hN hok
  go_enter Tryd.func6, Tryd.ntmps6
  go_wp2_with fail
  generalize w.alloc (.cells (netCells Ab An As Ar cb cn cs cr N) 31) = w0 at *
  have HB0 := Lib.hid hB0
  clear hB0
  refine (CV.out w0 HB0.out).mono ?_
  rintro e w1 ⟨rfl, hb1⟩
  have HB1 := Lib.hid hb1
  have HW := Lib.hid (fun W (hW : Below w0.heap.size w0 W) => HX.out.keep hsz0 hW)
  have HWN := Lib.hid (fun W (hW : Below w0.heap.size w0 W) => HB0.out.trans (hW.mono (Nat.le_of_lt hsz0)))
  have hs1 : w.heap.size < w1.heap.size := Nat.lt_of_lt_of_le hsz0 hb1.size
  clear x0 x1 x2 x3 x4 x5 x6 x7 hb1 CV HX
  go_wp2
  go_loopw [4, 5] (fun v iv wr => ∃ k : Nat, iv = .int .i64 k ∧ k ≤ N.blocks.length ∧ Hid (DeclsOwn wr w0.heap.size v ((N.blocks.map blockDc).take k)) ∧ Hid (Below w0.heap.size w0 wr)) (fun _ iv _ => N.blocks.length - (intOf iv).toNat)
  case atStart => exact ⟨0, rfl, Nat.zero_le _, Lib.hid ⟨[], rfl, World.ownsRow_nil _ _ _ _, by simp⟩, HB1⟩
  case round =>
    obtain ⟨k, rfl, hk, HO, HB⟩ := hrel
    obtain ⟨x0, _, _, _, _, _, _, _⟩ := HW.out wr HB.out
    by_cases hlt : k < N.blocks.length
    · have hbw := HWN.out wr HB.out
      obtain ⟨bb, ob, rfl, hbb, hs⟩ := HN.out.blocks.block hlt
      obtain ⟨c0, c1, c2⟩ := hs.keep hbb hbw
      have HT := Lib.hid (take_map_succ blockDc N.blocks hlt)
      have hdl : ((N.blocks.map blockDc).take k).length ≤ 1000000 := by simp; omega
      clear hs hbw
      generalize N.blocks[k] = x at *
      obtain ⟨nm, xx, yy⟩ := x
      simp only at c0 c1 c2 HT
      go_upto_region 8 with (fail)
      have hb2 := HB.out.alloc HB.out.size (.cells #[Sv nm, Iv xx, Iv yy] 56)
      have HO2 := Lib.hid (HO.out.keep (below_new2 wr (.cells #[Sv nm, Iv xx, Iv yy] 56)))
      have hs2 : w0.heap.size ≤ (wr.alloc (.cells #[Sv nm, Iv xx, Iv yy] 56)).heap.size := hb2.size
      obtain ⟨c0, c1, c2⟩ : BlockAt (wr.alloc (.cells #[Sv nm, Iv xx, Iv yy] 56)) wr.heap.size 0 ⟨nm, xx, yy⟩ := by
        constructor <;> rw [cell_of_row _ _ _ _ _ _ (heap_alloc_new wr _)] <;> rfl
      simp only [Nat.zero_add] at c0 c1 c2
      have HB2 := Lib.hid hb2
      have hsw : wr.heap.size + 1 = (wr.alloc (.cells #[Sv nm, Iv xx, Iv yy] 56)).heap.size := by simp
      clear hb2 HO HB x0
      generalize wr.alloc (.cells #[Sv nm, Iv xx, Iv yy] 56) = w2 at *
      generalize wr.heap.size = q2 at *
      have c1a := fun ob => alloc_cell2 c1 ob
      have c2a := fun ob => alloc_cell2 c2 ob
      have HOA := Lib.hid (fun o1 o2 => (HO2.out.keep (below_new2 w2 o1)).keep (below_new2 (w2.alloc o1) o2))
      have HBA := Lib.hid (fun o1 o2 => (HB2.out.alloc HB2.out.size o1).alloc (Nat.le_trans HB2.out.size (by simp)) o2)
      go_wp2_with (at_builtin; refine app_decl _ rfl _ _ rfl w0.heap.size u4 _ ⟨1, 0, [nm], [xx, yy]⟩ _ _ rfl (HOA.out _ _) ((own_litE #[Sv nm] 1 w2.heap.size w0.heap.size [Sv nm] rfl hs2 rfl rfl (by decide)).alloc _) (own_litE #[Iv xx, Iv yy] 2 (w2.heap.size + 1) w0.heap.size [Iv xx, Iv yy] (by simp) (by omega) rfl rfl (by decide)) _ (by simp) rfl hdl (HBA.out _ _).size rfl rfl ?_)
      intro v3 w3 hO3 hb3 _
      have HO3 : Hid (DeclsOwn w3 w0.heap.size v3 ((N.blocks.map blockDc).take (k + 1))) := Lib.hid (by rw [HT.out]; exact hO3)
      have HB3 := Lib.hid ((HBA.out (.cells #[Sv nm] 9) (.cells #[Iv xx, Iv yy] 3)).trans hb3)
      clear hO3 hb3 HOA HBA HO2 HB2 c0 c1 c2 c1a c2a
      go_wp2
      go_roundw
      case rel => exact ⟨k + 1, by go_num, by omega, HO3, HB3⟩
      case measure => simp [intOf]; omega
    · obtain rfl : k = N.blocks.length := by omega
      have HO2 : Hid (DeclsOwn wr w0.heap.size u4 (N.blocks.map blockDc ++ lanesTo N 0)) := Lib.hid (by
        have h := HO.out
        rw [List.take_of_length_le (by simp)] at h
        rw [show lanesTo N 0 = [] from rfl, List.append_nil]; exact h)
      have HB2 := HB
      clear HO
      go_wp2
      clear x0 HB
      go_loopw [4, 7, 8] (fun v iv _ wr => ∃ k : Nat, iv = .int .i64 k ∧ k ≤ N.blocks.length ∧ Hid (DeclsOwn wr w0.heap.size v (N.blocks.map blockDc ++ lanesTo N k)) ∧ Hid (Below w0.heap.size w0 wr)) (fun _ iv _ _ => N.blocks.length - (intOf iv).toNat)
      case atStart => exact ⟨0, rfl, Nat.zero_le _, HO2, HB2⟩
      case round =>
        clear HO2 HB2
        obtain ⟨k, rfl, hk, HO, HB⟩ := hrel
        obtain ⟨x0, x1, _, _, _, _, _, _⟩ := HW.out wr HB.out
        by_cases hlt : k < N.blocks.length
        · have hltn : k < N.next.length := by have := HLn.out; omega
          obtain ⟨bn, on, A1, cc1, rfl, e1, hr⟩ := HN.out.next.one hltn
          have hbn : bn < w.heap.size := World.block_lt_of_cell? _ _ e1
          have HE1 : Hid (∀ W, Below w.heap.size w W → W.cell? ⟨bn, on + k, none⟩ = some (.slice A1 N.next[k].length cc1) ∧ Holds W A1 (N.next[k].map Iv)) := Lib.hid (fun W hW => ⟨(hW.cell (p := ⟨bn, on + k, none⟩) hbn).trans e1, hr.keep hW⟩)
          have HS := Lib.hid (lanesTo_succ N k)
          have HG := Lib.hid (validG_row HOk.out.graph hltn)
          have h4 := HOk.out.outs _ (List.getElem_mem hltn)
          have hgd : N.next.getD k [] = N.next[k] := by rw [List.getD_eq_getElem?_getD, List.getElem?_eq_getElem hltn]; rfl
          rw [hgd] at HS
          clear e1 hr hgd
          generalize N.next[k] = r at *
          have HO0 : Hid (DeclsOwn wr w0.heap.size u4 (N.blocks.map blockDc ++ lanesTo N k ++ (r.map (laneDc N k)).take 0)) := Lib.hid (by rw [List.take_zero, List.append_nil]; exact HO.out)
          have HBx := HB
          clear HO
          go_wp2
          clear x0 x1 HB
          go_loopw [4, 8] (fun v jv wr => ∃ j : Nat, jv = .int .i64 j ∧ j ≤ r.length ∧ Hid (DeclsOwn wr w0.heap.size v (N.blocks.map blockDc ++ lanesTo N k ++ (r.map (laneDc N k)).take j)) ∧ Hid (Below w0.heap.size w0 wr)) (fun _ jv _ => r.length - (intOf jv).toNat)
          case atStart => exact ⟨0, rfl, Nat.zero_le _, HO0, HBx⟩
          case round =>
            clear HO0 HBx
            obtain ⟨j, rfl, hj, HO, HB⟩ := hrel
            obtain ⟨x0, x1, _, _, _, _, _, _⟩ := HW.out wr HB.out
            have hbw := HWN.out wr HB.out
            by_cases hjt : j < r.length
            · obtain ⟨_, hr0⟩ := HE1.out w (Below.refl _ _)
              obtain ⟨b1, o1, rfl, e2⟩ := hr0.iv hjt
              have hx := HG.out r[j] (List.getElem_mem hjt)
              have HT := Lib.hid (take_map_succ (laneDc N k) r hjt)
              have hxl : r[j] < (N.blocks.length : Int) := by have := HLn.out; have := hx.2.1; omega
              have hx0 := hx.1
              clear hr0 hx
              generalize r[j] = x at *
              obtain ⟨t, rfl⟩ := Int.eq_ofNat_of_zero_le hx0
              have htl : t < N.blocks.length := by omega
              obtain ⟨bb, ob, rfl, hbb, hs⟩ := HN.out.blocks.block hlt
              obtain ⟨bb2, ob2, hA, _, hs2⟩ := HN.out.blocks.block htl
              injection hA with hA
              injection hA with hA1 hA2
              subst hA1 hA2
              have HD : Hid (laneDc N k (t : Int) = ⟨2, 0, [N.blocks[k].name, N.blocks[t].name], []⟩) := Lib.hid (by unfold laneDc; rw [nmB_at hlt, nmB_at htl])
              have hdl : (N.blocks.map blockDc ++ lanesTo N k ++ (r.map (laneDc N k)).take j).length ≤ 1000000 := lanes_small HOk.out (by omega) (by rw [List.length_map]; omega)
              have C0 := Lib.hid hs.c0
              have D0 := Lib.hid hs2.c0
              have E2 := Lib.hid e2
              have hb1w : b1 < w.heap.size := World.block_lt_of_cell? _ _ e2
              clear hs hs2 hx0 e2
              generalize N.blocks[k].name = nm1 at *
              generalize N.blocks[t].name = nm2 at *
              have HS2 : Hid (∀ W, Below w0.heap.size w0 W → W.cell? ⟨w.heap.size, 0, none⟩ = some (.slice (some ⟨bb, ob, none⟩) N.blocks.length cb) ∧ W.cell? ⟨w.heap.size, 1, none⟩ = some (.slice (some ⟨bn, on, none⟩) N.next.length cn) ∧ W.cell? ⟨bn, on + k, none⟩ = some (.slice (some ⟨b1, o1, none⟩) r.length cc1) ∧ W.cell? ⟨b1, o1 + j, none⟩ = some (.int .i64 (t : Int)) ∧ W.cell? ⟨bb, ob + k * 3, none⟩ = some (Sv nm1) ∧ W.cell? ⟨bb, ob + t * 3, none⟩ = some (Sv nm2)) := Lib.hid (fun W hW => by
                have hWn := HWN.out W hW
                obtain ⟨y0, y1, _, _, _, _, _, _⟩ := HW.out W hW
                obtain ⟨z1, _⟩ := HE1.out W hWn
                exact ⟨y0, y1, z1, (hWn.cell (p := ⟨b1, o1 + j, none⟩) hb1w).trans E2.out, (hWn.cell (p := ⟨bb, ob + k * 3, none⟩) hbb).trans C0.out, (hWn.cell (p := ⟨bb, ob + t * 3, none⟩) hbb).trans D0.out⟩)
              obtain ⟨_, _, e1, e2, c0, d0⟩ := HS2.out wr HB.out
              clear C0 D0 E2
              go_upto_region 15 with (fail)
              have hszr := HB.out.size
              have HBa : Hid (Below w0.heap.size w0 (wr.alloc (.cells #[Sv nm1, Sv nm2] 9)).drew) := Lib.hid ((HB.out.alloc hszr _).drew)
              have HBb : Hid (Below w0.heap.size w0 ((wr.alloc (.cells #[Sv nm1, Sv nm2] 9)).alloc (.cells #[.int .i64 2, .int .i64 0, .slice (some ⟨wr.heap.size, 0, none⟩) 2 2, .slice none 0 0] 47)).drew) := Lib.hid (((HB.out.alloc hszr _).alloc (by simp; omega) _).drew)
              have HOD : Hid (DeclsOwn ((wr.alloc (.cells #[Sv nm1, Sv nm2] 9)).alloc (.cells #[.int .i64 2, .int .i64 0, .slice (some ⟨wr.heap.size, 0, none⟩) 2 2, .slice none 0 0] 47)).drew w0.heap.size u4 (N.blocks.map blockDc ++ lanesTo N k ++ (r.map (laneDc N k)).take j)) := Lib.hid (((HO.out.keep (below_new2 _ _)).keep (below_new2 _ _)).keep (Below.refl _ _).drew)
              have HNO : Hid (((wr.alloc (.cells #[Sv nm1, Sv nm2] 9)).alloc (.cells #[.int .i64 2, .int .i64 0, .slice (some ⟨wr.heap.size, 0, none⟩) 2 2, .slice none 0 0] 47)).drew.ownsRow w0.heap.size 9 1 (.slice (some ⟨wr.heap.size, 0, none⟩) 2 2) 2 [Sv nm1, Sv nm2]) := Lib.hid (ownsRow_below ((own_litE #[Sv nm1, Sv nm2] 2 wr.heap.size w0.heap.size [Sv nm1, Sv nm2] rfl hszr rfl rfl (by decide)).alloc _) (Below.refl _ _).drew)
              have HQ : Hid (((wr.alloc (.cells #[Sv nm1, Sv nm2] 9)).alloc (.cells #[.int .i64 2, .int .i64 0, .slice (some ⟨wr.heap.size, 0, none⟩) 2 2, .slice none 0 0] 47)).drew.heap[wr.heap.size + 1]? = some (.cells #[.int .i64 2, .int .i64 0, .slice (some ⟨wr.heap.size, 0, none⟩) 2 2, .slice none 0 0] 47 (0, 0))) := Lib.hid (by
                have h := heap_alloc_new (wr.alloc (.cells #[Sv nm1, Sv nm2] 9)) (.cells #[.int .i64 2, .int .i64 0, .slice (some ⟨wr.heap.size, 0, none⟩) 2 2, .slice none 0 0] 47)
                rw [show (wr.alloc (.cells #[Sv nm1, Sv nm2] 9)).heap.size = wr.heap.size + 1 by simp] at h
                exact h)
              go_region_held3 (fun W => W.cell? ⟨w.heap.size, 0, none⟩ = some (.slice (some ⟨bb, ob, none⟩) N.blocks.length cb) ∧ W.cell? ⟨w.heap.size, 1, none⟩ = some (.slice (some ⟨bn, on, none⟩) N.next.length cn) ∧ W.cell? ⟨bn, on + k, none⟩ = some (.slice (some ⟨b1, o1, none⟩) r.length cc1) ∧ W.cell? ⟨b1, o1 + j, none⟩ = some (.int .i64 (t : Int)) ∧ W.cell? ⟨bb, ob + k * 3, none⟩ = some (Sv nm1) ∧ W.cell? ⟨bb, ob + t * 3, none⟩ = some (Sv nm2)) (first | exact HS2.out _ HB.out.drew | exact HS2.out _ HBa.out | exact HS2.out _ HBb.out | exact HS2.out _ HB3.out) (first | (refine step_decl _ (by rfl) _ _ (by rfl) w0.heap.size u4 _ ⟨2, 0, [nm1, nm2], []⟩ (.slice (some ⟨wr.heap.size, 0, none⟩) 2 2) (.slice none 0 0) (by rfl) HOD.out HNO.out (World.ownsRow_nil _ _ _ _) (wr.heap.size + 1) HQ.out (by rfl) hdl HBb.out.size rfl rfl ?_; intro v3 w3 hO3 hb3 hs3; have HO3 := Lib.hid hO3; have HB3 := Lib.hid (HBb.out.trans hb3); clear hO3 hb3 hs3))
              have HO4 : Hid (DeclsOwn w3 w0.heap.size v3 (N.blocks.map blockDc ++ lanesTo N k ++ (r.map (laneDc N k)).take (j + 1))) := Lib.hid (by rw [HT.out, HD.out, ← List.append_assoc]; exact HO3.out)
              clear HS2 HBa HBb HOD HNO HQ HO3 HT HD
              go_wp2
              go_roundw
              case rel => exact ⟨j + 1, by go_num, by omega, HO4, HB3⟩
              case measure => simp [intOf]; omega
            · obtain ⟨e1, _⟩ := HE1.out wr hbw
              obtain rfl : j = r.length := by omega
              have HO4 : Hid (DeclsOwn wr w0.heap.size u4 (N.blocks.map blockDc ++ lanesTo N (k + 1))) := Lib.hid (by
                have h := HO.out
                rw [List.take_of_length_le (by simp)] at h
                rw [HS.out, ← List.append_assoc]; exact h)
              have HB4 := HB
              clear HO
              go_wp2
              clear x0 x1 HB
              go_roundw
              case rel => exact ⟨k + 1, by go_num, by omega, HO4, HB4⟩
              case measure => simp [intOf]; omega
        · obtain rfl : k = N.blocks.length := by omega
          have HO2 : Hid (DeclsOwn wr w0.heap.size u4 (N.blocks.map blockDc ++ lanesTo N N.blocks.length ++ (N.spurs.map (spurDc N)).take 0)) := Lib.hid (by rw [List.take_zero, List.append_nil]; exact HO.out)
          have hL1 : (N.blocks.map blockDc ++ lanesTo N N.blocks.length).length ≤ 1000 := by
            have := lanesTo_len HOk.out N.blocks.length (by have := HLn.out; omega)
            simp only [List.length_append, List.length_map]; omega
          have HB2 := HB
          clear HO
          go_wp2
          clear x0 x1 HB
          go_loopw [4, 9] (fun v iv wr => ∃ k : Nat, iv = .int .i64 k ∧ k ≤ N.spurs.length ∧ Hid (DeclsOwn wr w0.heap.size v (N.blocks.map blockDc ++ lanesTo N N.blocks.length ++ (N.spurs.map (spurDc N)).take k)) ∧ Hid (Below w0.heap.size w0 wr)) (fun _ iv _ => N.spurs.length - (intOf iv).toNat)
          case atStart => exact ⟨0, rfl, Nat.zero_le _, HO2, HB2⟩
          case round =>
            clear HO2 HB2
            obtain ⟨k, rfl, hk, HO, HB⟩ := hrel
            obtain ⟨_, _, x2, _, _, _, _, _⟩ := HW.out wr HB.out
            by_cases hlt : k < N.spurs.length
            · have hbw := HWN.out wr HB.out
              obtain ⟨bs, os, rfl, hbs, hs⟩ := HN.out.spurs.spur hlt
              obtain ⟨c0, c1, c2, c3, c4, c5⟩ := hs.keep hbs hbw
              have HT := Lib.hid (take_map_succ (spurDc N) N.spurs hlt)
              have hdl : (N.blocks.map blockDc ++ lanesTo N N.blocks.length ++ (N.spurs.map (spurDc N)).take k).length ≤ 1000000 := by
                rw [List.length_append, List.length_take, List.length_map]; omega
              obtain ⟨⟨i0, i1⟩, ⟨p0, p1⟩, _, _⟩ := HOk.out.spurOk _ (List.getElem_mem hlt)
              clear hs hbw
              generalize N.spurs[k] = x at *
              obtain ⟨nm, dp, xi, xo, sw, xb⟩ := x
              simp only at c0 c1 c2 c3 c4 c5 i0 i1 p0 p1 HT
              obtain ⟨xi, rfl⟩ := Int.eq_ofNat_of_zero_le i0
              obtain ⟨xo, rfl⟩ := Int.eq_ofNat_of_zero_le p0
              have hil : xi < N.blocks.length := by omega
              have hol : xo < N.blocks.length := by omega
              obtain ⟨bb, ob, rfl, hbb, hs⟩ := HN.out.blocks.block hil
              obtain ⟨bb2, ob2, hA, _, hs2⟩ := HN.out.blocks.block hol
              injection hA with hA
              injection hA with hA1 hA2
              subst hA1 hA2
              have HD : Hid (spurDc N ⟨nm, dp, xi, xo, sw, xb⟩ = ⟨if dp then 4 else 3, 0, [nm, N.blocks[xi].name, N.blocks[xo].name], [sw]⟩) := Lib.hid (by unfold spurDc; rw [nmB_at hil, nmB_at hol])
              have C0 := Lib.hid hs.c0
              have D0 := Lib.hid hs2.c0
              clear hs hs2 i0 p0 i1 p1
              generalize N.blocks[xi].name = nm1 at *
              generalize N.blocks[xo].name = nm2 at *
              have hszr := HB.out.size
              have HBa := Lib.hid (HB.out.alloc hszr (.cells #[Sv nm, Bo dp, .int .i64 (xi : Int), .int .i64 (xo : Int), Iv sw, Iv xb] 60))
              have HOa := Lib.hid (HO.out.keep (below_new2 wr (.cells #[Sv nm, Bo dp, .int .i64 (xi : Int), .int .i64 (xo : Int), Iv sw, Iv xb] 60)))
              have HY := Lib.hid (heap_alloc_new wr (.cells #[Sv nm, Bo dp, .int .i64 (xi : Int), .int .i64 (xo : Int), Iv sw, Iv xb] 60))
              have hsq : wr.heap.size < (wr.alloc (.cells #[Sv nm, Bo dp, .int .i64 (xi : Int), .int .i64 (xo : Int), Iv sw, Iv xb] 60)).heap.size := by simp
              go_upto_region 20 with (fail)
              generalize wr.alloc (.cells #[Sv nm, Bo dp, .int .i64 (xi : Int), .int .i64 (xo : Int), Iv sw, Iv xb] 60) = w2 at *
              generalize wr.heap.size = q2 at *
              clear HO HB c0 c1 c2 c3 c4 c5 x2
              have HS2 : Hid (∀ W, Below w2.heap.size w2 W → W.cell? ⟨w.heap.size, 0, none⟩ = some (.slice (some ⟨bb, ob, none⟩) N.blocks.length cb) ∧ W.cell? ⟨q2, 0, none⟩ = some (Sv nm) ∧ W.cell? ⟨q2, 2, none⟩ = some (.int .i64 (xi : Int)) ∧ W.cell? ⟨q2, 3, none⟩ = some (.int .i64 (xo : Int)) ∧ W.cell? ⟨q2, 4, none⟩ = some (Iv sw) ∧ W.cell? ⟨bb, ob + xi * 3, none⟩ = some (Sv nm1) ∧ W.cell? ⟨bb, ob + xo * 3, none⟩ = some (Sv nm2)) := Lib.hid (fun W hW => by
                have hW0 := HBa.out.trans (hW.mono HBa.out.size)
                have hWn := HWN.out W hW0
                obtain ⟨y0, _, _, _, _, _, _, _⟩ := HW.out W hW0
                have hyq := (hW.block q2 (block_lt HY.out)).trans HY.out
                refine ⟨y0, ?_, ?_, ?_, ?_, (hWn.cell (p := ⟨bb, ob + xi * 3, none⟩) hbb).trans C0.out, (hWn.cell (p := ⟨bb, ob + xo * 3, none⟩) hbb).trans D0.out⟩ <;> rw [cell_of_row W _ _ _ _ _ hyq] <;> rfl)
              have HY1 : Hid (∀ W, Below w2.heap.size w2 W → W.cell? ⟨q2, 1, none⟩ = some (Bo dp)) := Lib.hid (fun W hW => by
                rw [cell_of_row W _ _ _ _ _ ((hW.block q2 (block_lt HY.out)).trans HY.out)]; rfl)
              clear C0 D0 HY
              go_cut [11] (fun p wx => ∃ (X : Nat) (nv xv : Value), p = .pointer (some ⟨X, 0, none⟩) ∧ Hid (wx.heap[X]? = some (.cells #[.int .i64 3, .int .i64 0, nv, xv] 47 (0, 0))) ∧ w2.heap.size ≤ X ∧ Hid (wx.ownsRow w0.heap.size 9 1 nv 3 [Sv nm, Sv nm1, Sv nm2]) ∧ Hid (wx.ownsRow w0.heap.size 3 1 xv 1 [Iv sw]) ∧ nv.oneCell' = true ∧ xv.oneCell' = true ∧ Hid (Below w2.heap.size w2 wx))
              case first =>
                obtain ⟨x0, c0, c2, c3, c4, d1, d2⟩ := HS2.out w2 (Below.refl _ _)
                have hs20 := HBa.out.size
                go_region_held3 (fun W => W.cell? ⟨w.heap.size, 0, none⟩ = some (.slice (some ⟨bb, ob, none⟩) N.blocks.length cb) ∧ W.cell? ⟨q2, 0, none⟩ = some (Sv nm) ∧ W.cell? ⟨q2, 2, none⟩ = some (.int .i64 (xi : Int)) ∧ W.cell? ⟨q2, 3, none⟩ = some (.int .i64 (xo : Int)) ∧ W.cell? ⟨q2, 4, none⟩ = some (Iv sw) ∧ W.cell? ⟨bb, ob + xi * 3, none⟩ = some (Sv nm1) ∧ W.cell? ⟨bb, ob + xo * 3, none⟩ = some (Sv nm2)) (first | exact HS2.out _ (by repeat (first | assumption | (with_reducible exact Below.refl _ _) | (with_reducible refine Below.drew ?_) | (refine Below.alloc ?_ (by first | assumption | omega | (simp; done) | (simp; omega)) _)))) (fail)
                all_goals
                  go_wp2_with fail
                  go_meet
                  case rel =>
                    refine ⟨_, _, _, rfl, Lib.hid (by first | exact (look3 _ _ _ _).1 | exact (look3 _ _ _ _).2.1 | exact (look3 _ _ _ _).2.2), ?_, Lib.hid (own_heap (cs := #[Sv nm, Sv nm1, Sv nm2]) (by first | exact (look3 _ _ _ _).1 | exact (look3 _ _ _ _).2.1 | exact (look3 _ _ _ _).2.2) ?_ rfl rfl (by decide)), Lib.hid (own_heap (cs := #[Iv sw]) (by first | exact (look3 _ _ _ _).1 | exact (look3 _ _ _ _).2.1 | exact (look3 _ _ _ _).2.2) ?_ rfl rfl (by decide)), rfl, rfl, Lib.hid ?_⟩
                    · omega
                    · omega
                    · omega
                    · exact (((below_new2 _ _).alloc (by simp) _).alloc (by simp; omega) _).drew
              case rest =>
                obtain ⟨X, nv, xv, rfl, HXd, hXq, HNm, HNu, _, _, HBx⟩ := hcut
                obtain ⟨g1, k1, rfl, _, _⟩ := own_at HNm.out (by omega)
                obtain ⟨g2, k2, rfl, _, _⟩ := own_at HNu.out (by omega)
                have z1 := HY1.out wc HBx.out
                have hfz : wc.frozen? ⟨X, 0, none⟩ = false := by simp [World.frozen?, HXd.out]
                obtain ⟨y0, y1, y2, y3⟩ := decl_cells HXd.out
                have HPut := Lib.hid (word_put HXd.out hXq HNm.out HNu.out HBx.out (.int .i64 4))
                have hw0 : w0.heap.size ≤ w2.heap.size := HBa.out.size
                have HFin : Hid (∀ (W : World) (v : Value) (z : Int), DeclsOwn W w0.heap.size v (N.blocks.map blockDc ++ lanesTo N N.blocks.length ++ (N.spurs.map (spurDc N)).take k ++ [⟨z, 0, [nm, nm1, nm2], [sw]⟩]) → z = (if dp then 4 else 3) → DeclsOwn W w0.heap.size v (N.blocks.map blockDc ++ lanesTo N N.blocks.length ++ (N.spurs.map (spurDc N)).take (k + 1))) := Lib.hid (fun W v z h hz => by rw [HT.out, HD.out, ← hz, ← List.append_assoc]; exact h)
                clear HT HD HS2 HY1
                rcases dp with _ | _
                · have HOc := Lib.hid (HOa.out.keep HBx.out)
                  go_wp2_with (at_builtin; refine app_decl _ rfl _ _ rfl w0.heap.size u4 _ ⟨3, 0, [nm, nm1, nm2], [sw]⟩ _ _ rfl HOc.out HNm.out HNu.out _ rfl rfl hdl (Nat.le_trans hw0 HBx.out.size) rfl rfl ?_)
                  intro v3 w3 hO3 hb3 _
                  have HO3 := Lib.hid (HFin.out w3 v3 3 (by simpa only [List.append_assoc] using hO3) rfl)
                  have HB3 := Lib.hid ((HBa.out.trans (HBx.out.mono hw0)).trans hb3)
                  clear hO3 hb3 HOc HFin HPut HXd HNm HNu HBx HBa HOa
                  go_wp2
                  go_roundw
                  case rel => exact ⟨k + 1, by go_num, by omega, HO3, HB3⟩
                  case measure => simp [intOf]; omega
                · have HOc := Lib.hid (HOa.out.keep HPut.out.2.2.2)
                  obtain ⟨t0, t1, t2, t3⟩ := decl_cells HPut.out.1
                  go_wp2_with (at_builtin; refine app_decl _ rfl _ _ rfl w0.heap.size u4 _ ⟨4, 0, [nm, nm1, nm2], [sw]⟩ _ _ rfl HOc.out HPut.out.2.1 HPut.out.2.2.1 wc.heap.size (by simp [World.setCell]) rfl hdl (Nat.le_trans hw0 HPut.out.2.2.2.size) rfl rfl ?_)
                  intro v3 w3 hO3 hb3 _
                  have HO3 := Lib.hid (HFin.out w3 v3 4 (by simpa only [List.append_assoc] using hO3) rfl)
                  have HB3 := Lib.hid ((HBa.out.trans (HPut.out.2.2.2.mono hw0)).trans hb3)
                  clear hO3 hb3 HOc HFin HPut HXd HNm HNu HBx HBa HOa
                  go_wp2
                  go_roundw
                  case rel => exact ⟨k + 1, by go_num, by omega, HO3, HB3⟩
                  case measure => simp [intOf]; omega
            · obtain rfl : k = N.spurs.length := by omega
              have HO2 : Hid (DeclsOwn wr w0.heap.size u4 (N.blocks.map blockDc ++ lanesTo N N.blocks.length ++ N.spurs.map (spurDc N) ++ (N.robots.take 0).flatMap (robotL N))) := Lib.hid (by
                have h := HO.out
                rw [List.take_of_length_le (by simp)] at h
                simpa using h)
              have hL2 : (N.blocks.map blockDc ++ lanesTo N N.blocks.length ++ N.spurs.map (spurDc N)).length ≤ 2000 := by
                rw [List.length_append, List.length_map]; omega
              have HB2 := HB
              clear HO
              go_wp2
              clear x2 HB
              generalize hP2 : N.blocks.map blockDc ++ lanesTo N N.blocks.length ++ N.spurs.map (spurDc N) = P2 at *
              have HP2 := Lib.hid hP2
              clear hP2 hL1
              go_loopw [4, 12, 13] (fun v iv _ wr => ∃ i : Nat, iv = .int .i64 i ∧ i ≤ N.robots.length ∧ Hid (DeclsOwn wr w0.heap.size v (P2 ++ (N.robots.take i).flatMap (robotL N))) ∧ Hid (Below w0.heap.size w0 wr)) (fun _ iv _ _ => N.robots.length - (intOf iv).toNat)
              case atStart => exact ⟨0, rfl, Nat.zero_le _, HO2, HB2⟩
              case round =>
                clear HO2 HB2
                obtain ⟨i, rfl, hi, HO, HB⟩ := hrel
                obtain ⟨_, _, _, x3, _, _, _, _⟩ := HW.out wr HB.out
                by_cases hit : i < N.robots.length
                · obtain ⟨br, orr, rfl, er0⟩ := HN.out.robots.iv hit
                  have hbr : br < w.heap.size := World.block_lt_of_cell? _ _ er0
                  have HER : Hid (∀ W, Below w.heap.size w W → W.cell? ⟨br, orr + i, none⟩ = some (.int .i64 N.robots[i])) := Lib.hid (fun W hW => (hW.cell (p := ⟨br, orr + i, none⟩) hbr).trans er0)
                  have HHm := Lib.hid (HOk.out.homes _ (List.getElem_mem hit))
                  have HT := Lib.hid (take_flat_succ (robotL N) N.robots hit)
                  have hxb := robot_bound HOk.out (List.getElem_mem hit)
                  have HO0 : Hid (DeclsOwn wr w0.heap.size u4 (P2 ++ (N.robots.take i).flatMap (robotL N) ++ ((N.spurs.take 0).filter (inS N.robots[i])).map (robotDc N.robots[i]))) := Lib.hid (by rw [List.take_zero]; simpa using HO.out)
                  have hL3 : (P2 ++ (N.robots.take i).flatMap (robotL N)).length ≤ 3000 := by
                    rw [List.length_append]
                    have := robots_len N (N.robots.take i)
                    rw [List.length_take, Nat.min_eq_left (by omega)] at this
                    have : i * N.spurs.length ≤ 8 * 6 := Nat.mul_le_mul (by omega) h6
                    omega
                  have HBx := HB
                  clear HO er0
                  generalize N.robots[i] = x at *
                  go_wp2
                  clear x3 HB
                  go_loopw [4, 13] (fun v jv wr => ∃ k : Nat, jv = .int .i64 k ∧ k ≤ N.spurs.length ∧ Hid (DeclsOwn wr w0.heap.size v (P2 ++ (N.robots.take i).flatMap (robotL N) ++ ((N.spurs.take k).filter (inS x)).map (robotDc x))) ∧ Hid (Below w0.heap.size w0 wr)) (fun _ jv _ => N.spurs.length - (intOf jv).toNat)
                  case atStart => exact ⟨0, rfl, Nat.zero_le _, HO0, HBx⟩
                  case round =>
                    clear HO0 HBx
                    obtain ⟨k, rfl, hk, HO, HB⟩ := hrel
                    obtain ⟨_, _, x2, _, _, _, _, _⟩ := HW.out wr HB.out
                    by_cases hlt : k < N.spurs.length
                    · have hbw := HWN.out wr HB.out
                      obtain ⟨bs, os, rfl, hbs, hs⟩ := HN.out.spurs.spur hlt
                      obtain ⟨c0, c1, c2, c3, c4, c5⟩ := hs.keep hbs hbw
                      have HF := Lib.hid (filter_succ x hlt)
                      have hdl : (P2 ++ (N.robots.take i).flatMap (robotL N) ++ ((N.spurs.take k).filter (inS x)).map (robotDc x)).length ≤ 1000000 := by
                        rw [List.length_append, List.length_map]
                        have := List.length_filter_le (inS x) (N.spurs.take k)
                        rw [List.length_take] at this
                        omega
                      have hsb := spur_bound HOk.out hlt
                      clear hs hbw
                      generalize N.spurs[k] = y at *
                      obtain ⟨nm, dp, xi, xo, sw, xb⟩ := y
                      simp only at c0 c1 c2 c3 c4 c5 hsb HF
                      have hszr := HB.out.size
                      have HBa := Lib.hid (HB.out.alloc hszr (.cells #[Sv nm, Bo dp, Iv xi, Iv xo, Iv sw, Iv xb] 60))
                      have HOa := Lib.hid (HO.out.keep (below_new2 wr (.cells #[Sv nm, Bo dp, Iv xi, Iv xo, Iv sw, Iv xb] 60)))
                      have HY := Lib.hid (heap_alloc_new wr (.cells #[Sv nm, Bo dp, Iv xi, Iv xo, Iv sw, Iv xb] 60))
                      have hsq : wr.heap.size < (wr.alloc (.cells #[Sv nm, Bo dp, Iv xi, Iv xo, Iv sw, Iv xb] 60)).heap.size := by simp
                      go_upto_region 31 with (fail)
                      generalize wr.alloc (.cells #[Sv nm, Bo dp, Iv xi, Iv xo, Iv sw, Iv xb] 60) = w2 at *
                      generalize wr.heap.size = q2 at *
                      clear HO HB c0 c1 c2 c3 c4 c5 x2
                      have HS2 : Hid (∀ W, Below w2.heap.size w2 W → W.cell? ⟨w.heap.size, 3, none⟩ = some (.slice (some ⟨br, orr, none⟩) N.robots.length cr) ∧ W.cell? ⟨br, orr + i, none⟩ = some (.int .i64 x) ∧ W.cell? ⟨q2, 0, none⟩ = some (Sv nm) ∧ W.cell? ⟨q2, 5, none⟩ = some (Iv xb) ∧ W.cell? ⟨q2, 4, none⟩ = some (Iv sw)) := Lib.hid (fun W hW => by
                        have hW0 := HBa.out.trans (hW.mono HBa.out.size)
                        have hWn := HWN.out W hW0
                        obtain ⟨_, _, _, y3, _, _, _, _⟩ := HW.out W hW0
                        have hyq := (hW.block q2 (block_lt HY.out)).trans HY.out
                        refine ⟨y3, HER.out W hWn, ?_, ?_, ?_⟩ <;> rw [cell_of_row W _ _ _ _ _ hyq] <;> rfl)
                      obtain ⟨y3, e1, d0, d5, d4⟩ := HS2.out w2 (Below.refl _ _)
                      have hw1 : IntKind.i64.wrap (xb + sw) = xb + sw := IntWalk.i64_in _ (by omega)
                      have hcase : (decide (xb ≤ x) = false) ∨ (decide (xb ≤ x) = true ∧ decide (x < xb + sw) = false) ∨ (decide (xb ≤ x) = true ∧ decide (x < xb + sw) = true) := by
                        rcases decide (xb ≤ x) with _ | _ <;> rcases decide (x < xb + sw) with _ | _ <;> simp
                      rcases hcase with hd1 | ⟨hd1, hd2⟩ | ⟨hd1, hd2⟩
                      · have HO3 : Hid (DeclsOwn w2 w0.heap.size u4 (P2 ++ (N.robots.take i).flatMap (robotL N) ++ ((N.spurs.take (k + 1)).filter (inS x)).map (robotDc x))) := Lib.hid (by rw [HF.out, if_neg (by simp [inS, hd1]), List.append_nil]; exact HOa.out)
                        go_quiet (fail)
                        have HO4 := Lib.hid (HO3.out.keep (below_drewN (Below.refl _ w2) nq))
                        have HB4 := Lib.hid (below_drewN HBa.out nq)
                        clear HO3 HOa HBa HS2 HF
                        go_wp2
                        go_roundw
                        case rel => exact ⟨k + 1, by go_num, by omega, HO4, HB4⟩
                        case measure => simp [intOf]; omega
                      · have HO3 : Hid (DeclsOwn w2 w0.heap.size u4 (P2 ++ (N.robots.take i).flatMap (robotL N) ++ ((N.spurs.take (k + 1)).filter (inS x)).map (robotDc x))) := Lib.hid (by rw [HF.out, if_neg (by simp [inS, hd1, hd2]), List.append_nil]; exact HOa.out)
                        go_quiet (fail)
                        have HO4 := Lib.hid (HO3.out.keep (below_drewN (Below.refl _ w2) nq))
                        have HB4 := Lib.hid (below_drewN HBa.out nq)
                        clear HO3 HOa HBa HS2 HF
                        go_wp2
                        go_roundw
                        case rel => exact ⟨k + 1, by go_num, by omega, HO4, HB4⟩
                        case measure => simp [intOf]; omega
                      · have HF2 : Hid (((N.spurs.take (k + 1)).filter (inS x)).map (robotDc x) = ((N.spurs.take k).filter (inS x)).map (robotDc x) ++ [⟨5, 0, [nm], [x - xb + 1]⟩]) := Lib.hid (by rw [HF.out, if_pos (by simp [inS, hd1, hd2])]; rfl)
                        go_quiet (fail)
                        have hb2 := below_drewN (Below.refl w2.heap.size w2) nq
                        have HO3 := Lib.hid (fun W (hW : Below (w2.drewN nq).heap.size (w2.drewN nq) W) => (HOa.out.keep hb2).keep hW)
                        have HS3 := Lib.hid (fun W (hW : Below (w2.drewN nq).heap.size (w2.drewN nq) W) => HS2.out W (hb2.trans (hW.mono hb2.size)))
                        have HW3 := Lib.hid (fun W (hW : Below w0.heap.size (w2.drewN nq) W) => (below_drewN HBa.out nq).trans hW)
                        have hw3 : w0.heap.size ≤ (w2.drewN nq).heap.size := (below_drewN HBa.out nq).size
                        have HY3 : Hid ((w2.drewN nq).heap[q2]? = some (.cells #[Sv nm, Bo dp, Iv xi, Iv xo, Iv sw, Iv xb] 60 (0, 0))) := Lib.hid HY.out
                        clear hb2 HS2 HBa HOa HY hsq
                        generalize w2.drewN nq = w3 at *
                        have HC3 : Hid (∀ wa W : World, Below w3.heap.size w3 wa → (∀ (k : Nat) (cs : Array Value) (t : TypeId) (fz : Nat × Nat), wa.heap[k]? = some (Obj.cells cs t fz) → 47 ≠ t → W.heap[k]? = some (Obj.cells cs t fz)) → Below w0.heap.size wa W → W.cell? ⟨w.heap.size, 3, none⟩ = some (.slice (some ⟨br, orr, none⟩) N.robots.length cr) ∧ W.cell? ⟨br, orr + i, none⟩ = some (.int .i64 x) ∧ W.cell? ⟨q2, 0, none⟩ = some (Sv nm) ∧ W.cell? ⟨q2, 5, none⟩ = some (Iv xb) ∧ W.cell? ⟨q2, 4, none⟩ = some (Iv sw)) := Lib.hid (fun wa W ha hk9 hb9 => by
                          have hW0 := HW3.out W ((ha.mono hw3).trans hb9)
                          have hWn := HWN.out W hW0
                          obtain ⟨_, _, _, y3, _, _, _, _⟩ := HW.out W hW0
                          have hyq := hk9 _ _ _ _ ((ha.block q2 (block_lt HY3.out)).trans HY3.out) (by decide)
                          refine ⟨y3, HER.out W hWn, ?_, ?_, ?_⟩ <;> rw [cell_of_row W _ _ _ _ _ hyq] <;> rfl)
                        have hws1 : IntKind.i64.wrap (x - xb) = x - xb := IntWalk.i64_in _ (by omega)
                        have hws2 : IntKind.i64.wrap (x - xb + 1) = x - xb + 1 := IntWalk.i64_in _ (by omega)
                        clear y3 e1 d0 d5 d4 HF
                        obtain ⟨y3, e1, d0, d5, d4⟩ := HS3.out w3 (Below.refl _ _)
                        go_wp2_with fail
                        go_region_held3 (fun W => W.cell? ⟨w.heap.size, 3, none⟩ = some (.slice (some ⟨br, orr, none⟩) N.robots.length cr) ∧ W.cell? ⟨br, orr + i, none⟩ = some (.int .i64 x) ∧ W.cell? ⟨q2, 0, none⟩ = some (Sv nm) ∧ W.cell? ⟨q2, 5, none⟩ = some (Iv xb) ∧ W.cell? ⟨q2, 4, none⟩ = some (Iv sw)) (first | exact HC9.out | exact HS3.out _ (by repeat (first | assumption | (with_reducible exact Below.refl _ _) | (with_reducible refine Below.drew ?_) | (refine Below.alloc ?_ (by first | assumption | omega | (simp; done) | (simp; omega)) _)))) (first | (refine step_declK _ (by rfl) _ _ (by rfl) w0.heap.size u4 _ ⟨5, 0, [nm], [x - xb + 1]⟩ (.slice (some ⟨w3.heap.size, 0, none⟩) 1 1) (.slice (some ⟨w3.heap.size + 1, 0, none⟩) 1 1) (by rfl) (HO3.out _ (by repeat (first | assumption | (with_reducible exact Below.refl _ _) | (with_reducible refine Below.drew ?_) | (refine Below.alloc ?_ (by first | assumption | omega | (simp; done) | (simp; omega)) _)))) (own_heap (cs := #[Sv nm]) (look3 _ _ _ _).1 hw3 rfl rfl (by decide)) (own_heap (cs := #[.int .i64 (x - xb + 1)]) (look3 _ _ _ _).2.1 (by omega) rfl rfl (by decide)) (w3.heap.size + 1 + 1) (look3 _ _ _ _).2.2 (by rfl) hdl (Nat.le_trans hw3 (by simp; omega)) rfl rfl ?_; intro v9 w9 hO9 hb9 hk9; have HO9 := Lib.hid hO9; have HB9 := Lib.hid (HW3.out _ (Below.trans (Below.mono ((by repeat (first | assumption | (with_reducible exact Below.refl _ _) | (with_reducible refine Below.drew ?_) | (refine Below.alloc ?_ (by first | assumption | omega | (simp; done) | (simp; omega)) _)))) hw3) hb9)); have HC9 := Lib.hid (HC3.out _ _ ((by repeat (first | assumption | (with_reducible exact Below.refl _ _) | (with_reducible refine Below.drew ?_) | (refine Below.alloc ?_ (by first | assumption | omega | (simp; done) | (simp; omega)) _)))) hk9 hb9); clear hO9 hb9 hk9) | (refine step_declK _ (by rfl) _ _ (by rfl) w0.heap.size u4 _ ⟨5, 0, [nm], [x - xb + 1]⟩ (.slice (some ⟨w3.heap.size + 1, 0, none⟩) 1 1) (.slice (some ⟨w3.heap.size, 0, none⟩) 1 1) (by rfl) (HO3.out _ (by repeat (first | assumption | (with_reducible exact Below.refl _ _) | (with_reducible refine Below.drew ?_) | (refine Below.alloc ?_ (by first | assumption | omega | (simp; done) | (simp; omega)) _)))) (own_heap (cs := #[Sv nm]) (look3 _ _ _ _).2.1 (by omega) rfl rfl (by decide)) (own_heap (cs := #[.int .i64 (x - xb + 1)]) (look3 _ _ _ _).1 hw3 rfl rfl (by decide)) (w3.heap.size + 1 + 1) (look3 _ _ _ _).2.2 (by rfl) hdl (Nat.le_trans hw3 (by simp; omega)) rfl rfl ?_; intro v9 w9 hO9 hb9 hk9; have HO9 := Lib.hid hO9; have HB9 := Lib.hid (HW3.out _ (Below.trans (Below.mono ((by repeat (first | assumption | (with_reducible exact Below.refl _ _) | (with_reducible refine Below.drew ?_) | (refine Below.alloc ?_ (by first | assumption | omega | (simp; done) | (simp; omega)) _)))) hw3) hb9)); have HC9 := Lib.hid (HC3.out _ _ ((by repeat (first | assumption | (with_reducible exact Below.refl _ _) | (with_reducible refine Below.drew ?_) | (refine Below.alloc ?_ (by first | assumption | omega | (simp; done) | (simp; omega)) _)))) hk9 hb9); clear hO9 hb9 hk9))
                        all_goals
                          have HO4 : Hid (DeclsOwn w9 w0.heap.size v9 (P2 ++ (N.robots.take i).flatMap (robotL N) ++ ((N.spurs.take (k + 1)).filter (inS x)).map (robotDc x))) := Lib.hid (by rw [HF2.out, ← List.append_assoc]; exact HO9.out)
                          clear HO9 HC9 HC3 HS3 HO3 HW3 HY3 HF2
                          go_wp2
                          go_roundw
                          case rel => exact ⟨k + 1, by go_num, by omega, HO4, HB9⟩
                          case measure => simp [intOf]; omega
                    · obtain rfl : k = N.spurs.length := by omega
                      have HO4 : Hid (DeclsOwn wr w0.heap.size u4 (P2 ++ (N.robots.take (i + 1)).flatMap (robotL N))) := Lib.hid (by
                        have h := HO.out
                        rw [List.take_of_length_le (Nat.le_refl _)] at h
                        rw [HT.out, ← List.append_assoc]; exact h)
                      have HB4 := HB
                      clear HO
                      go_wp2
                      clear x2 HB
                      go_roundw
                      case rel => exact ⟨i + 1, by go_num, by omega, HO4, HB4⟩
                      case measure => simp [intOf]; omega
                · obtain rfl : i = N.robots.length := by omega
                  have HO2 : Hid (DeclsOwn wr w0.heap.size u4 (P2 ++ N.robots.flatMap (robotL N))) := Lib.hid (by
                    have h := HO.out
                    rw [List.take_of_length_le (Nat.le_refl _)] at h
                    exact h)
                  have hL3 : (P2 ++ N.robots.flatMap (robotL N)).length ≤ 3000 := by
                    rw [List.length_append]
                    have := robots_len N N.robots
                    have : N.robots.length * N.spurs.length ≤ 8 * 6 := Nat.mul_le_mul h8 h6
                    omega
                  obtain ⟨_, _, _, _, x4, x5, x6, x7⟩ := HW.out wr HB.out
                  have HR : Hid (P2 ++ N.robots.flatMap (robotL N) ++ [confDc N] = rawDecls N) := Lib.hid (by rw [← HP2.out]; unfold rawDecls; simp only [List.append_assoc])
                  have HBx := HB
                  clear HO
                  go_upto_region 34 with (fail)
                  have hb2 := HBx.out.alloc HBx.out.size (.cells #[Iv N.queue, Iv N.aging, Iv N.detours, Iv N.patience] 29)
                  have HO3 := Lib.hid (HO2.out.keep (below_new2 wr (.cells #[Iv N.queue, Iv N.aging, Iv N.detours, Iv N.patience] 29)))
                  have hs2 : w0.heap.size ≤ (wr.alloc (.cells #[Iv N.queue, Iv N.aging, Iv N.detours, Iv N.patience] 29)).heap.size := hb2.size
                  have c0 : (wr.alloc (.cells #[Iv N.queue, Iv N.aging, Iv N.detours, Iv N.patience] 29)).cell? ⟨wr.heap.size, 0, none⟩ = some (Iv N.queue) := by rw [cell_of_row _ _ _ _ _ _ (heap_alloc_new wr _)]; rfl
                  have c1 : (wr.alloc (.cells #[Iv N.queue, Iv N.aging, Iv N.detours, Iv N.patience] 29)).cell? ⟨wr.heap.size, 1, none⟩ = some (Iv N.aging) := by rw [cell_of_row _ _ _ _ _ _ (heap_alloc_new wr _)]; rfl
                  have c2 : (wr.alloc (.cells #[Iv N.queue, Iv N.aging, Iv N.detours, Iv N.patience] 29)).cell? ⟨wr.heap.size, 2, none⟩ = some (Iv N.detours) := by rw [cell_of_row _ _ _ _ _ _ (heap_alloc_new wr _)]; rfl
                  have c3 : (wr.alloc (.cells #[Iv N.queue, Iv N.aging, Iv N.detours, Iv N.patience] 29)).cell? ⟨wr.heap.size, 3, none⟩ = some (Iv N.patience) := by rw [cell_of_row _ _ _ _ _ _ (heap_alloc_new wr _)]; rfl
                  have HB3 := Lib.hid hb2
                  have hsw : wr.heap.size + 1 = (wr.alloc (.cells #[Iv N.queue, Iv N.aging, Iv N.detours, Iv N.patience] 29)).heap.size := by simp
                  clear hb2 HO2 HBx HB x4 x5 x6 x7
                  generalize wr.alloc (.cells #[Iv N.queue, Iv N.aging, Iv N.detours, Iv N.patience] 29) = w2 at *
                  generalize wr.heap.size = q2 at *
                  have HOA := Lib.hid (fun o1 => HO3.out.keep (below_new2 w2 o1))
                  have HBA := Lib.hid (fun o1 => HB3.out.alloc HB3.out.size o1)
                  go_wp2_with (at_builtin; refine app_decl _ rfl _ _ rfl w0.heap.size u4 _ (confDc N) (.slice none 0 0) _ rfl (HOA.out _) (World.ownsRow_nil _ _ _ _) (own_litE #[Iv N.queue, Iv N.aging, Iv N.detours, Iv N.patience] 4 w2.heap.size w0.heap.size [Iv N.queue, Iv N.aging, Iv N.detours, Iv N.patience] rfl hs2 rfl rfl (by decide)) _ (by simp) rfl (by omega) (HBA.out _).size rfl rfl ?_)
                  intro v3 w3 hO3 hb3 _
                  have hO4 : DeclsOwn w3 w0.heap.size v3 (rawDecls N) := by rw [← HR.out]; simpa only [List.append_assoc] using hO3
                  have HB4 := Lib.hid ((HBA.out (.cells #[Iv N.queue, Iv N.aging, Iv N.detours, Iv N.patience] 3)).trans hb3)
                  have hRl : (rawDecls N).length ≤ 4000 := by rw [← HR.out, List.length_append]; simp only [List.length_cons, List.length_nil]; omega
                  have hR0 : 0 < (rawDecls N).length := by rw [← HR.out, List.length_append]; simp
                  have HE : Hid (lineFrom 0 (rawDecls N) = descD N) := Lib.hid rfl
                  clear hO3 hb3 HOA HBA HO3 HB3 HR hL3 c0 c1 c2 c3 HP2 hL2
                  obtain ⟨g, cap, rfl⟩ : ∃ g cap, v3 = .slice (some ⟨g, 0, none⟩) (rawDecls N).length cap := by
                    obtain ⟨fvs, _, h2, _⟩ := hO4
                    obtain ⟨g, cap, h3, _⟩ := own_at4 h2 hR0
                    exact ⟨g, cap, h3⟩
                  have HO4 := Lib.hid hO4
                  have hgb : w0.heap.size ≤ g := by
                    obtain ⟨fvs, _, h2, _⟩ := hO4
                    obtain ⟨g', cap', h3, h4⟩ := own_at4 h2 hR0
                    injection h3 with h3 _ _
                    injection h3 with h3
                    injection h3 with h3
                    omega
                  clear hO4
                  generalize rawDecls N = R at *
                  have HO0 : Hid (DeclsOwn w3 w0.heap.size (.slice (some ⟨g, 0, none⟩) R.length cap) (lineFrom 0 (R.take 0) ++ R.drop 0)) := HO4
                  clear HO4
                  go_wp2
                  go_loopw [16] (fun iv wr => ∃ i : Nat, iv = .int .i64 i ∧ i ≤ R.length ∧ Hid (DeclsOwn wr w0.heap.size (.slice (some ⟨g, 0, none⟩) R.length cap) (lineFrom 0 (R.take i) ++ R.drop i)) ∧ Hid (Below w0.heap.size w0 wr)) (fun iv _ => R.length - (intOf iv).toNat)
                  case atStart => exact ⟨0, rfl, Nat.zero_le _, HO0, HB4⟩
                  case round =>
                    clear HO0 HB4
                    obtain ⟨i, rfl, hi, HO, HB⟩ := hrel
                    by_cases hit : i < R.length
                    · obtain ⟨z, hl1, hf1⟩ : ∃ z, wr.cell? ⟨g, i * 4 + 1, none⟩ = some (.int .i64 z) ∧ wr.frozen? ⟨g, i * 4 + 1, none⟩ = false := ⟨_, HO.out.line_at (i := i) (by rw [line_len]; omega)⟩
                      have HO4 := Lib.hid (HO.out.setLine (line_get R hit) ((i : Int) + 1))
                      rw [line_step R hit] at HO4
                      have HB5 := Lib.hid (below_put HB.out hgb (i := i * 4 + 1) (v := .int .i64 ((i : Int) + 1)))
                      clear HO HB
                      go_wp2
                      go_roundw
                      case rel => exact ⟨i + 1, by go_num, by omega, HO4, HB5⟩
                      case measure => simp [intOf]; omega
                    · obtain rfl : i = R.length := by omega
                      have HO5 : Hid (DeclsOwn wr w0.heap.size (.slice (some ⟨g, 0, none⟩) R.length cap) (descD N)) := Lib.hid (by
                        have h := HO.out
                        rw [List.take_of_length_le (Nat.le_refl _), List.drop_of_length_le (Nat.le_refl _), List.append_nil, HE.out] at h
                        exact h)
                      go_wp2
                      go_ret2
                      exact ⟨_, rfl, HO5.out.base (Nat.le_of_lt hsz0), HWN.out wr HB.out⟩
end Go.Proofs.YtgjnhefmheefbaaDoor

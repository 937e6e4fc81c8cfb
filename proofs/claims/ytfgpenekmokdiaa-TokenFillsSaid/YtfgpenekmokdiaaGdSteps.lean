/- Contract of girth's stepsTo: how many steps lead from each vertex to one. -/
import Derived.Test.YtfgpenekmokdiaaGdPure
import Derived.Test.YtfgpenekmokdiaaMzAD
import Derived.Laws.Rows
import Derived.Laws.Tables
namespace Go.Proofs.Ytfgpenekmokdiaa
open Go Go.RowKit Fl

def ArrD (w : World) (G : Nat) (t : TypeId) (l : List Value) : Prop := w.heap[G]? = some (.cells l.toArray t (0, 0))
theorem ArrD.lt {w : World} {G : Nat} {t : TypeId} {l : List Value} (h : ArrD w G t l) : G < w.heap.size := block_lt h
theorem ArrD.cell {w : World} {G : Nat} {t : TypeId} {l : List Value} (h : ArrD w G t l) {k : Nat} {u : Value} (hk : l[k]? = some u) : w.cell? ⟨G, k, none⟩ = some u ∧ w.frozen? ⟨G, k, none⟩ = false := by
  refine ⟨?_, ?_⟩
  · rw [cell_of_row w G k _ _ _ h]
    simpa using hk
  · unfold ArrD at h
    simp [World.frozen?, h]
theorem ArrD.set {w : World} {G : Nat} {t : TypeId} {l : List Value} (h : ArrD w G t l) (k : Nat) (u : Value) : ArrD (w.setCell ⟨G, k, none⟩ u) G t (l.set k u) := by
  unfold ArrD at h ⊢
  have e : (l.set k u).toArray = l.toArray.setIfInBounds k u := by
    apply Array.ext'
    simp
  rw [e]
  simp [World.setCell, Array.getElem?_modify]
  exact ⟨_, h, by simp⟩
theorem ArrD.same {w w' : World} {G : Nat} {t : TypeId} {l : List Value} (h : ArrD w G t l) (e : w'.heap[G]? = w.heap[G]?) : ArrD w' G t l := e.trans h
theorem ArrD.alloc {w : World} {G : Nat} {t : TypeId} {l : List Value} (h : ArrD w G t l) (o : Obj) : ArrD (w.alloc o) G t l := h.same (Below.heap_alloc _ _ _ h.lt)
theorem ArrD.put {w : World} {G H k : Nat} {t : TypeId} {l : List Value} {v : Value} (h : ArrD w G t l) (hn : G ≠ H) : ArrD (w.setCell ⟨H, k, none⟩ v) G t l := h.same (Below.heap_setCell _ _ _ _ hn)
theorem ArrD.grown {w w' : World} {G : Nat} {t : TypeId} {l : List Value} {row : Option Nat} (h : ArrD w G t l) (hg : w.grownBy w' row) (hn : some G ≠ row) : ArrD w' G t l := h.same (hg.block G h.lt hn)
theorem ArrD.keep {w w' : World} {G B : Nat} {t : TypeId} {l : List Value} (h : ArrD w G t l) (hb : Below B w w') (hG : G < B) : ArrD w' G t l := h.same (hb.block G hG)
theorem ArrD.row {w : World} {G : Nat} {t : TypeId} {l l' : List Value} (h : ArrD w G t l) : ArrD (w.setRow G l'.toArray) G t l' := setRow_heap w G _ _ _ _ h
theorem gd_set (w : World) (a : Addr) (u : Value) (o : Obj) : ((w.setCell a u).alloc o).heap[w.heap.size]? = some o := by
  have h := heap_alloc_new (w.setCell a u) o
  have e : (w.setCell a u).heap.size = w.heap.size := by simp [World.setCell]
  rwa [e] at h
/-- The numbers in an array of 24. -/
def padZ (M : List Int) : List Value := (M ++ List.replicate (24 - M.length) 0).map Iv
theorem padZ_length {M : List Int} (h : M.length ≤ 24) : (padZ M).length = 24 := by simp [padZ]; omega
theorem padZ_at {M : List Int} {k : Nat} (h : k < M.length) : (padZ M)[k]? = some (.int .i64 (atZ M k)) := by
  rw [atZ_at h]
  unfold padZ
  rw [List.getElem?_map, List.getElem?_append_left h, List.getElem?_eq_getElem h]
  rfl
theorem padZ_set {M : List Int} {k : Nat} {z : Int} (h : k < M.length) : (padZ M).set k (.int .i64 z) = padZ (M.set k z) := by
  unfold padZ
  rw [List.length_set, ← List.set_append_left _ _ h, List.map_set]
theorem padZ_none {n : Nat} (h : n ≤ 24) : padZ (List.replicate n 0) = List.replicate 24 (.int .i64 0) := by
  unfold padZ
  rw [List.length_replicate, List.replicate_append_replicate, List.map_replicate]
  congr 1
  omega
theorem Try.undZ : Try.prog.underlying 57 = some (.array 24 3) := by kernel_rfl
theorem Try.sizeZ : (Try.prog.info? 57).map (·.size) = some 24 := by kernel_rfl
theorem sizeZl {l : List Value} (h : l.length = 24) : (Try.prog.info? 57).map (·.size) = some l.toArray.size := by rw [List.size_toArray, h]; exact Try.sizeZ
theorem padZ_one (M : List Int) : (padZ M).toArray.all (·.oneCell') = true := by
  refine Array.all_eq_true_iff_forall_mem.2 fun v hv => ?_
  simp only [padZ, List.mem_toArray, List.mem_map] at hv
  obtain ⟨x, _, rfl⟩ := hv
  rfl
/-- The slice (b, o) holds the numbers Q, with room for cap. -/
def QAt (w : World) (base b o cap : Nat) (Q : List Int) : Prop := ∃ cur, w.heap[b]? = some (.cells cur 3 (0, 0)) ∧ base ≤ b ∧ o + cap ≤ cur.size ∧ Q.length ≤ cap ∧ ∀ j (h : j < Q.length), cur[o + j]? = some (Iv Q[j])
theorem QAt.lt {w : World} {base b o cap : Nat} {Q : List Int} (h : QAt w base b o cap Q) : b < w.heap.size ∧ base ≤ b := by
  obtain ⟨cur, h1, h2, _⟩ := h
  exact ⟨block_lt h1, h2⟩
theorem QAt.cap {w : World} {base b o cap : Nat} {Q : List Int} (h : QAt w base b o cap Q) : Q.length ≤ cap := by
  obtain ⟨cur, _, _, _, h, _⟩ := h
  exact h
theorem QAt.same {w w' : World} {base b o cap : Nat} {Q : List Int} (h : QAt w base b o cap Q) (e : w'.heap[b]? = w.heap[b]?) : QAt w' base b o cap Q := by
  obtain ⟨cur, h1, h2⟩ := h
  exact ⟨cur, e.trans h1, h2⟩
theorem QAt.alloc {w : World} {base b o cap : Nat} {Q : List Int} (h : QAt w base b o cap Q) (ob : Obj) : QAt (w.alloc ob) base b o cap Q := h.same (Below.heap_alloc _ _ _ h.lt.1)
theorem QAt.put {w : World} {base b o cap H k : Nat} {Q : List Int} {v : Value} (h : QAt w base b o cap Q) (hn : b ≠ H) : QAt (w.setCell ⟨H, k, none⟩ v) base b o cap Q := h.same (Below.heap_setCell _ _ _ _ hn)
theorem QAt.cell {w : World} {base b o cap : Nat} {Q : List Int} (h : QAt w base b o cap Q) {j : Nat} (hj : j < Q.length) : w.cell? ⟨b, o + j, none⟩ = some (.int .i64 Q[j]) := by
  obtain ⟨cur, h1, _, _, _, h5⟩ := h
  rw [cell_of_row w b _ cur _ _ h1]
  exact h5 j hj
theorem QAt.one {w : World} {base F : Nat} {z : Int} (h : w.heap[F]? = some (.cells #[Iv z] 3 (0, 0))) (hb : base ≤ F) : QAt w base F 0 1 [z] :=
  ⟨_, h, hb, by simp, by simp, fun j hj => by
    obtain rfl : j = 0 := by simpa using hj
    rfl⟩
theorem QAt.front {w : World} {base b o cap : Nat} {Q : List Int} (h : QAt w base b o cap Q) : QAt w base b o Q.length Q := by
  obtain ⟨cur, h1, h2, h3, h4, h5⟩ := h
  exact ⟨cur, h1, h2, by omega, Nat.le_refl _, h5⟩
/-- Behind the first ones. -/
theorem QAt.behind {w : World} {base b o cap : Nat} {L A : List Int} (h : QAt w base b o cap (L ++ A)) : QAt w base b (if cap = L.length then o else o + L.length) (cap - L.length) A := by
  obtain ⟨cur, h1, h2, h3, h4, h5⟩ := h
  rw [List.length_append] at h4
  refine ⟨cur, h1, h2, by split <;> omega, by omega, fun j hj => ?_⟩
  rw [if_neg (by omega)]
  have := h5 (L.length + j) (by rw [List.length_append]; omega)
  rw [show o + L.length + j = o + (L.length + j) by omega, this, List.getElem_append_right (by omega)]
  simp
/-- A level, and the queue that begins with it. -/
structure LQ (w : World) (base b o b2 o2 cap : Nat) (L A : List Int) : Prop where
  lev : QAt w base b o L.length L
  que : QAt w base b2 o2 cap (L ++ A)
  off : b = b2 → o = o2
theorem LQ.start {w : World} {base b o cap : Nat} {L : List Int} (h : QAt w base b o cap L) : LQ w base b o b o cap L [] := ⟨h.front, by simpa using h, fun _ => rfl⟩
theorem LQ.alloc {w : World} {base b o b2 o2 cap : Nat} {L A : List Int} (h : LQ w base b o b2 o2 cap L A) (ob : Obj) : LQ (w.alloc ob) base b o b2 o2 cap L A := ⟨h.lev.alloc ob, h.que.alloc ob, h.off⟩
theorem LQ.put {w : World} {base b o b2 o2 cap H k : Nat} {L A : List Int} {v : Value} (h : LQ w base b o b2 o2 cap L A) (hn : H < base) : LQ (w.setCell ⟨H, k, none⟩ v) base b o b2 o2 cap L A :=
  ⟨h.lev.put (by have := h.lev.lt.2; omega), h.que.put (by have := h.que.lt.2; omega), h.off⟩
section
variable {ops : Array Oper} {rest : List Oper} {o : Oper} {a : Act} {Q : Exit → Act → World → Prop}
theorem app_level (w : World) (hgd : o.guard = none) (s x : Operand) (ho : o.op = .call { callee := .builtin .append, args := #[s, x], argTypes := #[23, 23] }) (base b o1 b2 o2 cap : Nat) (L A : List Int) (n : Nat) (hn : n = L.length + A.length) (hs : a.eval s = .slice (some ⟨b2, o2, none⟩) n cap) (hown : LQ w base b o1 b2 o2 cap L A)
    (B : Nat) (z : Int) (hx : a.eval x = .slice (some ⟨B, 0, none⟩) 1 1) (hc : w.cell? ⟨B, 0, none⟩ = some (Iv z)) (hn2 : n ≤ 1000000000) (hbase : base ≤ w.heap.size)
    (h : ∀ b2' o2' cap' w' row, LQ w' base b o1 b2' o2' cap' L (A ++ [z]) → w.grownBy w' row → (∀ k, row = some k → base ≤ k) → wpList Try.prog ops Q rest (a.put o.dst (.slice (some ⟨b2', o2', none⟩) (n + 1) cap')) w') : wpList Try.prog ops Q (o :: rest) a w := by
  obtain ⟨i, i1, i2, i3, i4⟩ := info_parts Try.infoIntG
  have hnews : ∀ j u, [Iv z][j]? = some u → w.cell? ((⟨B, 0, none⟩ : Addr).add j) = some u := fun j u hu => by
    rcases j with _ | j
    · simp at hu; subst hu; simpa [Addr.add] using hc
    · simp at hu
  have hone : ∀ u ∈ [Iv z], u.oneCell' = true := fun u hu => by simp at hu; subst hu; rfl
  obtain ⟨hl, hq, hoff⟩ := hown
  have hl0 := hl.lt
  obtain ⟨cur, hh, hb, hof, hle, hcells⟩ := hq
  have hlen : (L ++ A).length = n := by rw [List.length_append, hn]
  rw [hlen] at hle
  have hcell : ∀ j u, ((L ++ A).map Iv)[j]? = some u → w.cell? ⟨b2, o2 + j, none⟩ = some u := fun j u hu => by
    rw [List.getElem?_map] at hu
    rcases hx' : (L ++ A)[j]? with _ | y
    · rw [hx'] at hu; cases hu
    · rw [hx'] at hu
      obtain ⟨hj, rfl⟩ := List.getElem?_eq_some_iff.1 hx'
      rw [cell_of_row w b2 _ cur _ _ hh, hcells j hj]
      exact hu
  refine wpList_append_arg w hgd s x 23 ho 3 i (.int .i64 0) 1 8 Try.underlying23 i1 i2 i3 i4 rfl (by decide) b2 o2 n cap ((L ++ A).map Iv) hs (by rw [List.length_map, hlen]; omega) hcell ⟨B, 0, none⟩ 1 1 [Iv z] hx rfl hnews hone (fun hr j hj => ?_) (by unfold maxLen; omega) (by omega) (fun hr => ?_) (fun _ v' w' g1 g2 => ?_)
  · obtain rfl : j = 0 := by simpa using hj
    refine ⟨?_, by simp [World.frozen?, hh]⟩
    rw [cell_of_row w b2 _ cur _ _ hh, Array.getElem?_eq_getElem (by omega)]
    rfl
  · rw [setCells_one, Nat.mul_one]
    have hset : (w.setCell ⟨b2, o2 + n, none⟩ (Iv z)).heap[b2]? = some (.cells (cur.setIfInBounds (o2 + n) (Iv z)) 3 (0, 0)) := by
      rw [setCell_eq_setRow w b2 _ cur _ _ _ hh]
      exact setRow_heap _ _ _ _ _ _ hh
    refine h b2 o2 cap _ (some b2) ⟨?_, ⟨cur.setIfInBounds (o2 + n) (Iv z), hset, hb, by simpa using hof, by rw [← List.append_assoc, List.length_append, hlen]; simp; omega, fun j hj => ?_⟩, hoff⟩ ⟨rfl, rfl, rfl, by simp [World.setCell], fun k _ hne => Below.heap_setCell w _ _ k (fun e => hne (by rw [e]))⟩ (fun k hk => by injection hk with hk; subst hk; exact hb)
    · by_cases e : b = b2
      · have e2 := hoff e
        subst e e2
        obtain ⟨cur', c1, c2, c3, c4, c5⟩ := hl
        rw [hh] at c1
        injection c1 with c1
        injection c1 with c1
        subst c1
        refine ⟨_, hset, c2, by simpa using c3, c4, fun j hj => ?_⟩
        rw [Array.getElem?_setIfInBounds, if_neg (by omega)]
        exact c5 j hj
      · exact hl.put e
    · have hj' : j < n + 1 := by rw [← List.append_assoc, List.length_append, hlen] at hj; simpa using hj
      by_cases e : j = n
      · subst e
        rw [Array.getElem?_setIfInBounds, if_pos rfl, if_pos (by omega)]
        refine congrArg (fun q : Int => some (Iv q)) ?_
        rw [List.getElem_of_eq (List.append_assoc L A [z]).symm, List.getElem_append_right (by omega)]
        simp
      · have hj'' : j < (L ++ A).length := by omega
        rw [Array.getElem?_setIfInBounds, if_neg (by omega), hcells j hj'']
        refine congrArg (fun q : Int => some (Iv q)) ?_
        rw [List.getElem_of_eq (List.append_assoc L A [z]).symm, List.getElem_append_left hj'']
  · obtain ⟨g1a, g1b⟩ := g1
    rcases g1b with ⟨_, h0⟩ | ⟨g, cap', cur', hv, hgb, hh', hnc, hcm, hcs, hxs⟩
    · simp at h0
    · rw [hv]
      refine h g 0 cap' w' none ⟨hl.same (g2.block b hl0.1 (by simp)), ⟨cur', hh', by omega, by omega, by rw [← List.append_assoc, List.length_append, hlen]; simp; omega, fun j hj => ?_⟩, fun e => by omega⟩ g2 (fun k hk => by cases hk)
      have hj' : j < n + 1 := by rw [← List.append_assoc, List.length_append, hlen] at hj; simpa using hj
      have e : (cur'.toList.take ((n + 1) * 1))[j]? = some (Iv (L ++ (A ++ [z]))[j]) := by
        rw [hxs, show (L ++ A).map Iv ++ [Iv z] = (L ++ (A ++ [z])).map Iv by simp, List.getElem?_map, List.getElem?_eq_getElem hj]; rfl
      rw [List.getElem?_take] at e
      split at e
      · rw [Nat.zero_add]; simpa using e
      · cases e
end
theorem zeros_new (w : World) : ArrD (w.alloc (.cells #[.int .i64 0, .int .i64 0, .int .i64 0, .int .i64 0, .int .i64 0, .int .i64 0, .int .i64 0, .int .i64 0, .int .i64 0, .int .i64 0, .int .i64 0, .int .i64 0, .int .i64 0, .int .i64 0, .int .i64 0, .int .i64 0, .int .i64 0, .int .i64 0, .int .i64 0, .int .i64 0, .int .i64 0, .int .i64 0, .int .i64 0, .int .i64 0] 57)) w.heap.size 57 (List.replicate 24 (.int .i64 0)) := by
  unfold ArrD
  rw [heap_alloc_new]
  rfl
theorem below_rowZ {B G : Nat} {w w' : World} (h : Below B w w') (hg : B ≤ G) (c : Array Value) : Below B w (w'.setRow G c) := by
  refine ⟨h.os, h.tape, h.output, Nat.le_trans h.size (by simp [World.setRow]), fun k hk => ?_⟩
  rw [setRow_other w' G k c (by omega)]
  exact h.block k hk
set_option maxRecDepth 100000 in
set_option maxHeartbeats 8000000 in
theorem steps_c (A : Option Addr) (c : Nat) (h : GraphD) (v : Nat) (w : World) (hh : RowsAt w A (revG h)) (hg : validG h = true) (hv : v < h.length) :
    Calls Try.prog 73 #[.slice A h.length c, .int .i64 v] w fun e w' => ∃ M, StF h v M ∧ e = .returned (.agg (padZ M).toArray) ∧ Below w.heap.size w w' := by
  have HH := Lib.hid hh
  have HG := Lib.hid hg
  have HV := Lib.hid (revG_valid hg)
  have hl24 := validG_len hg
  have HRL := Lib.hid (revG_length h)
  have HR24 := Lib.hid (validG_short (revG_valid hg))
  have HZ1 := Lib.hid (((zeros_new w).alloc (.cells #[.int .i64 0, .int .i64 0, .int .i64 0, .int .i64 0, .int .i64 0, .int .i64 0, .int .i64 0, .int .i64 0, .int .i64 0, .int .i64 0, .int .i64 0, .int .i64 0, .int .i64 0, .int .i64 0, .int .i64 0, .int .i64 0, .int .i64 0, .int .i64 0, .int .i64 0, .int .i64 0, .int .i64 0, .int .i64 0, .int .i64 0, .int .i64 0] 57)).alloc (.cells #[.int .i64 v] 3))
  have HZ2 := Lib.hid ((zeros_new (w.alloc (.cells #[.int .i64 0, .int .i64 0, .int .i64 0, .int .i64 0, .int .i64 0, .int .i64 0, .int .i64 0, .int .i64 0, .int .i64 0, .int .i64 0, .int .i64 0, .int .i64 0, .int .i64 0, .int .i64 0, .int .i64 0, .int .i64 0, .int .i64 0, .int .i64 0, .int .i64 0, .int .i64 0, .int .i64 0, .int .i64 0, .int .i64 0, .int .i64 0] 57))).alloc (.cells #[.int .i64 v] 3))
  have HQ1 := Lib.hid (QAt.one (heap_alloc_new ((w.alloc (.cells #[.int .i64 0, .int .i64 0, .int .i64 0, .int .i64 0, .int .i64 0, .int .i64 0, .int .i64 0, .int .i64 0, .int .i64 0, .int .i64 0, .int .i64 0, .int .i64 0, .int .i64 0, .int .i64 0, .int .i64 0, .int .i64 0, .int .i64 0, .int .i64 0, .int .i64 0, .int .i64 0, .int .i64 0, .int .i64 0, .int .i64 0, .int .i64 0] 57)).alloc (.cells #[.int .i64 0, .int .i64 0, .int .i64 0, .int .i64 0, .int .i64 0, .int .i64 0, .int .i64 0, .int .i64 0, .int .i64 0, .int .i64 0, .int .i64 0, .int .i64 0, .int .i64 0, .int .i64 0, .int .i64 0, .int .i64 0, .int .i64 0, .int .i64 0, .int .i64 0, .int .i64 0, .int .i64 0, .int .i64 0, .int .i64 0, .int .i64 0] 57)) (.cells #[.int .i64 v] 3)) (Nat.le_refl _))
  have hs1 : (w.alloc (.cells #[.int .i64 0, .int .i64 0, .int .i64 0, .int .i64 0, .int .i64 0, .int .i64 0, .int .i64 0, .int .i64 0, .int .i64 0, .int .i64 0, .int .i64 0, .int .i64 0, .int .i64 0, .int .i64 0, .int .i64 0, .int .i64 0, .int .i64 0, .int .i64 0, .int .i64 0, .int .i64 0, .int .i64 0, .int .i64 0, .int .i64 0, .int .i64 0] 57)).heap.size = w.heap.size + 1 := by simp
  have hs2 : ((w.alloc (.cells #[.int .i64 0, .int .i64 0, .int .i64 0, .int .i64 0, .int .i64 0, .int .i64 0, .int .i64 0, .int .i64 0, .int .i64 0, .int .i64 0, .int .i64 0, .int .i64 0, .int .i64 0, .int .i64 0, .int .i64 0, .int .i64 0, .int .i64 0, .int .i64 0, .int .i64 0, .int .i64 0, .int .i64 0, .int .i64 0, .int .i64 0, .int .i64 0] 57)).alloc (.cells #[.int .i64 0, .int .i64 0, .int .i64 0, .int .i64 0, .int .i64 0, .int .i64 0, .int .i64 0, .int .i64 0, .int .i64 0, .int .i64 0, .int .i64 0, .int .i64 0, .int .i64 0, .int .i64 0, .int .i64 0, .int .i64 0, .int .i64 0, .int .i64 0, .int .i64 0, .int .i64 0, .int .i64 0, .int .i64 0, .int .i64 0, .int .i64 0] 57)).heap.size = w.heap.size + 1 + 1 := by simp
  rw [hs1] at HZ2
  rw [hs2] at HQ1
  have HB0 := Lib.hid (((((Below.refl w.heap.size w).alloc (Nat.le_refl _) (.cells #[.int .i64 0, .int .i64 0, .int .i64 0, .int .i64 0, .int .i64 0, .int .i64 0, .int .i64 0, .int .i64 0, .int .i64 0, .int .i64 0, .int .i64 0, .int .i64 0, .int .i64 0, .int .i64 0, .int .i64 0, .int .i64 0, .int .i64 0, .int .i64 0, .int .i64 0, .int .i64 0, .int .i64 0, .int .i64 0, .int .i64 0, .int .i64 0] 57)).alloc (by simp) (.cells #[.int .i64 0, .int .i64 0, .int .i64 0, .int .i64 0, .int .i64 0, .int .i64 0, .int .i64 0, .int .i64 0, .int .i64 0, .int .i64 0, .int .i64 0, .int .i64 0, .int .i64 0, .int .i64 0, .int .i64 0, .int .i64 0, .int .i64 0, .int .i64 0, .int .i64 0, .int .i64 0, .int .i64 0, .int .i64 0, .int .i64 0, .int .i64 0] 57))).alloc (by simp; omega) (.cells #[.int .i64 v] 3))
  have HS0 : w.heap.size + 1 + 1 ≤ (((w.alloc (.cells #[.int .i64 0, .int .i64 0, .int .i64 0, .int .i64 0, .int .i64 0, .int .i64 0, .int .i64 0, .int .i64 0, .int .i64 0, .int .i64 0, .int .i64 0, .int .i64 0, .int .i64 0, .int .i64 0, .int .i64 0, .int .i64 0, .int .i64 0, .int .i64 0, .int .i64 0, .int .i64 0, .int .i64 0, .int .i64 0, .int .i64 0, .int .i64 0] 57)).alloc (.cells #[.int .i64 0, .int .i64 0, .int .i64 0, .int .i64 0, .int .i64 0, .int .i64 0, .int .i64 0, .int .i64 0, .int .i64 0, .int .i64 0, .int .i64 0, .int .i64 0, .int .i64 0, .int .i64 0, .int .i64 0, .int .i64 0, .int .i64 0, .int .i64 0, .int .i64 0, .int .i64 0, .int .i64 0, .int .i64 0, .int .i64 0, .int .i64 0] 57)).alloc (.cells #[.int .i64 v] 3)).heap.size := by simp
  have HI := Lib.hid (StO.start hv)
  have HU := zer_start h.length
  have hZl : (List.replicate h.length (0 : Int)).length = h.length := by simp
  rw [← padZ_none hl24] at HZ2
  clear hh hg hs1 hs2
  go_enter Try.func73, Try.ntmps73
  go_wp2
  generalize ((w.alloc (.cells #[.int .i64 0, .int .i64 0, .int .i64 0, .int .i64 0, .int .i64 0, .int .i64 0, .int .i64 0, .int .i64 0, .int .i64 0, .int .i64 0, .int .i64 0, .int .i64 0, .int .i64 0, .int .i64 0, .int .i64 0, .int .i64 0, .int .i64 0, .int .i64 0, .int .i64 0, .int .i64 0, .int .i64 0, .int .i64 0, .int .i64 0, .int .i64 0] 57)).alloc (.cells #[.int .i64 0, .int .i64 0, .int .i64 0, .int .i64 0, .int .i64 0, .int .i64 0, .int .i64 0, .int .i64 0, .int .i64 0, .int .i64 0, .int .i64 0, .int .i64 0, .int .i64 0, .int .i64 0, .int .i64 0, .int .i64 0, .int .i64 0, .int .i64 0, .int .i64 0, .int .i64 0, .int .i64 0, .int .i64 0, .int .i64 0, .int .i64 0] 57)).alloc (.cells #[.int .i64 v] 3) = w3 at *
  generalize List.replicate h.length (0 : Int) = M0 at *
  obtain ⟨G, hG⟩ : ∃ G, G = w.heap.size := ⟨_, rfl⟩
  rw [← hG] at HZ1 HZ2 HQ1 HB0 HS0 ⊢
  have HGG := Lib.hid hG
  clear hG
  go_loopw [6, 7] (fun qv dv wr => ∃ (d : Nat) (Q M : List Int) (b o cap : Nat), qv = .slice (some ⟨b, o, none⟩) Q.length cap ∧ dv = .int .i64 d ∧ Hid (StO h v d M Q) ∧ (d + zer M ≤ h.length + 1 ∨ Q.length = 0 ∧ d + zer M ≤ h.length + 2) ∧ Q.length ≤ 24 ∧
    Hid (QAt wr (G + 1 + 1) b o cap Q) ∧ Hid (ArrD wr G 57 (List.replicate 24 (.int .i64 0))) ∧ Hid (ArrD wr (G + 1) 57 (padZ M)) ∧ Hid (Below G w wr) ∧ G + 1 + 1 ≤ wr.heap.size) (fun _ dv _ => 30 - (intOf dv).toNat)
  case atStart => exact ⟨1, [(v : Int)], M0, _, _, _, rfl, rfl, HI, .inl (by omega), by simp, HQ1, HZ1, HZ2, HB0, HS0⟩
  case round =>
    clear HI HQ1 HZ1 HZ2 HB0 HS0 HU hZl
    clear M0
    obtain ⟨d, Q, M, b, o, cap, rfl, rfl, HI, hdz, hQ24, HQ, HZ1, HZ2, HB, hsz⟩ := hrel
    have hMl : M.length = h.length := HI.out.kn.len
    rcases Nat.eq_zero_or_pos Q.length with hq | hq
    · have HE : Hid (StF h v M) := Lib.hid (StO.end_ HG.out (by have h1 := HI.out; rwa [List.eq_nil_of_length_eq_zero hq] at h1))
      have h24 : (padZ M).length = 24 := padZ_length (by omega)
      have h24z : (List.replicate 24 (Value.int .i64 0)).length = 24 := by simp
      clear HI HQ hdz
      rw [hq]
      go_wp2_with (first | refine wpList_load_row rfl _ _ rfl (G + 1) rfl _ _ _ _ HZ2.out Try.undZ rfl (sizeZl h24) ?_ | refine wpList_store_row rfl _ _ _ rfl G _ rfl rfl _ _ HZ1.out (sizeZl h24) (by rw [List.size_toArray, List.size_toArray, h24, h24z]) (padZ_one _) ?_)
      refine bodyPost_ret (v := .agg (padZ M).toArray) ?_ rfl ⟨M, HE.out, rfl, ?_⟩
      · rw [results_cell_row rfl _ _ _ _ _ _ _ rfl HZ1.out.row Try.undZ rfl (sizeZl h24)]
      · rw [← HGG.out]; exact below_rowZ HB.out (Nat.le_refl _) _
    · have hd1 : d + zer M ≤ h.length + 1 := by omega
      have hcap : Q.length ≤ cap := HQ.out.cap
      have hqn : ¬ Q.length = 0 := by omega
      have HL := Lib.hid (LQ.start HQ.out)
      have HM := Lib.hid HI.out.mid
      clear hdz HQ HI
      go_wp2
      clear hcap
      go_loopw [6, 28] (fun qv iv wr => ∃ (i : Nat) (M1 X : List Int) (b2 o2 cap2 : Nat), qv = .slice (some ⟨b2, o2, none⟩) (Q.length + X.length) cap2 ∧ iv = .int .i64 i ∧ i ≤ Q.length ∧ Hid (StM h v d Q i 0 M1 X) ∧ X.length + zer M1 = zer M ∧
        Hid (LQ wr (G + 1 + 1) b o b2 o2 cap2 Q X) ∧ Hid (ArrD wr G 57 (List.replicate 24 (.int .i64 0))) ∧ Hid (ArrD wr (G + 1) 57 (padZ M1)) ∧ Hid (Below G w wr) ∧ G + 1 + 1 ≤ wr.heap.size) (fun _ iv _ => Q.length - (intOf iv).toNat)
      case atStart => exact ⟨0, M, [], _, _, _, rfl, rfl, Nat.zero_le _, HM, by simp, HL, HZ1, HZ2, HB, hsz⟩
      case round =>
        clear HM HL HZ1 HZ2 HB hsz
        obtain ⟨i, M1, X, b2, o2, cap2, rfl, rfl, hi, HM, hxz, HL, HZ1, HZ2, HB, hsz⟩ := hrel
        have hX24 : X.length ≤ 24 := by have := zer_le M; omega
        by_cases hlt : i < Q.length
        · have hQi : Q[i]? = some Q[i] := List.getElem?_eq_getElem hlt
          obtain ⟨x0, x1, _⟩ := HM.out.que _ (List.getElem_mem hlt)
          have ex := HL.out.lev.cell hlt
          obtain ⟨xn, hx⟩ := Int.eq_ofNat_of_zero_le x0
          rw [hx] at hQi ex x1
          have HQi := Lib.hid hQi
          have hxn : xn < (revG h).length := by have := HRL.out; omega
          obtain ⟨bg, og, A2, c2, rfl, e1, h1⟩ := HH.out.one hxn
          have hbg : bg < G := by have h : bg < w.heap.size := World.block_lt_of_cell? _ _ e1; have := HGG.out; omega
          have e1r : wr.cell? ⟨bg, og + xn, none⟩ = some (.slice A2 (revG h)[xn].length c2) := (HB.out.cell (p := ⟨bg, og + xn, none⟩) hbg).trans e1
          have hr24 := HR24.out _ (List.getElem_mem hxn)
          have HX := Lib.hid (rowOk_row HV.out hxn)
          have hrow := rowG_at hxn
          rw [hrow] at HX
          have HRow := Lib.hid hrow
          have HR1 := Lib.hid h1
          have hxh : xn < h.length := by omega
          clear e1 h1 hrow hx x0 x1 hQi
          generalize (revG h)[xn] = r at *
          clear hxn
          go_wp2
          clear ex e1r
          go_loopw [6, 37] (fun qv mv wr => ∃ (m : Nat) (M1 X : List Int) (b2 o2 cap2 : Nat), qv = .slice (some ⟨b2, o2, none⟩) (Q.length + X.length) cap2 ∧ mv = .int .i64 m ∧ m ≤ r.length ∧ Hid (StM h v d Q i m M1 X) ∧ X.length + zer M1 = zer M ∧
            Hid (LQ wr (G + 1 + 1) b o b2 o2 cap2 Q X) ∧ Hid (ArrD wr G 57 (List.replicate 24 (.int .i64 0))) ∧ Hid (ArrD wr (G + 1) 57 (padZ M1)) ∧ Hid (Below G w wr) ∧ G + 1 + 1 ≤ wr.heap.size) (fun _ mv _ => r.length - (intOf mv).toNat)
          case atStart => exact ⟨0, M1, X, _, _, _, rfl, rfl, Nat.zero_le _, HM, hxz, HL, HZ1, HZ2, HB, hsz⟩
          case round =>
            clear HM HL HZ1 HZ2 HB hsz hxz hX24
            obtain ⟨m, M1, X, b2, o2, cap2, rfl, rfl, hm, HM, hxz, HL, HZ1, HZ2, HB, hsz⟩ := hrel
            have hX24 : X.length ≤ 24 := by have := zer_le M; omega
            by_cases hmlt : m < r.length
            · obtain ⟨br, or_, rfl, e2⟩ := HR1.out.iv hmlt
              have hbr : br < G := by have h : br < w.heap.size := World.block_lt_of_cell? _ _ e2; have := HGG.out; omega
              have e2r : wr.cell? ⟨br, or_ + m, none⟩ = some (.int .i64 r[m]) := (HB.out.cell (p := ⟨br, or_ + m, none⟩) hbr).trans e2
              obtain ⟨y0, y1, y2⟩ := HX.out r[m] (List.getElem_mem hmlt)
              obtain ⟨y, hy⟩ := Int.eq_ofNat_of_zero_le y0
              have hyr : (rowG (revG h) xn)[m]? = some (y : Int) := by rw [HRow.out, List.getElem?_eq_getElem hmlt, hy]
              rw [hy] at e2r y1
              have hyn : y < h.length := by have := HRL.out; omega
              have hM1l : M1.length = h.length := HM.out.len
              have hyM : y < M1.length := by omega
              have hy24 : y < 24 := by omega
              obtain ⟨em, fm⟩ := HZ2.out.cell (padZ_at hyM)
              clear e2 y0 y1 y2 hy
              rcases Classical.em (atZ M1 y = 0) with h0 | h0
              · have HM2 := Lib.hid (HM.out.mark HQi.out hyr hyn h0)
                have hz2 : (X ++ [(y : Int)]).length + zer (M1.set y d) = zer M := by
                  have := zer_set (d := (d : Int)) (by have := HM.out.one; omega) hyM (by rw [← atZ_at hyM]; exact h0)
                  rw [List.length_append, List.length_singleton]
                  omega
                have N1 := Lib.hid (HZ1.out.put (H := G + 1) (k := y) (v := .int .i64 d) (by omega))
                have N2 := Lib.hid (HZ2.out.set y (.int .i64 d))
                rw [padZ_set hyM] at N2
                have NB := Lib.hid (below_put (i := y) (v := .int .i64 d) HB.out (show G ≤ G + 1 by omega))
                have NL := Lib.hid (fun ob => (HL.out.put (H := G + 1) (k := y) (v := .int .i64 d) (by omega)).alloc ob)
                have NS : G + 1 + 1 ≤ (wr.setCell ⟨G + 1, y, none⟩ (.int .i64 d)).heap.size := by simpa [World.setCell] using hsz
                rw [h0] at em
                have hlen : Q.length + X.length + 1 = Q.length + (X ++ [(y : Int)]).length := by rw [List.length_append, List.length_singleton, Nat.add_assoc]
                have HLen := Lib.hid hlen
                clear HM HZ1 HZ2 HB HL h0 hyr hxz hlen
                go_wp2_with (at_builtin; refine app_level _ rfl _ _ rfl (G + 1 + 1) b o b2 o2 cap2 Q X (Q.length + X.length) rfl (by rfl) (NL.out _) _ y (by rfl) (by rw [cell_of_row _ _ 0 _ _ _ (gd_set _ _ _ _)]; rfl) (by omega) (by simp [World.setCell]; omega) ?_)
                intro b3 o3 cap3 w8 row8 hLQ hgrow hrow8
                have hne : ∀ k, k < G + 1 + 1 → some k ≠ row8 := fun k hk e => by have := hrow8 k e.symm; omega
                have KZ1 := Lib.hid ((N1.out.alloc (.cells #[.int .i64 y] 3)).grown hgrow (hne G (by omega)))
                have KZ2 := Lib.hid ((N2.out.alloc (.cells #[.int .i64 y] 3)).grown hgrow (hne (G + 1) (by omega)))
                have KB := Lib.hid ((NB.out.alloc (by simp [World.setCell]; omega) (.cells #[.int .i64 y] 3)).grown hgrow (by simp [World.setCell]; omega) (fun k hk => by have := hrow8 k hk; omega))
                have KS : G + 1 + 1 ≤ w8.heap.size := by have h := hgrow.size; simp [World.setCell] at h; omega
                have KL := Lib.hid hLQ
                clear hLQ hgrow hrow8 hne N1 N2 NB NL em fm
                rw [HLen.out]
                go_wp2
                go_roundw
                case rel => exact ⟨m + 1, M1.set y d, X ++ [(y : Int)], b3, o3, cap3, rfl, by go_num, by omega, HM2, hz2, KL, KZ1, KZ2, KB, KS⟩
                case measure => simp [intOf]; omega
              · have HM2 := Lib.hid (HM.out.skip HQi.out hyr (by rw [Int.toNat_natCast]; exact h0))
                have h0b : (atZ M1 y == 0) = false := by rw [beq_eq_false_iff_ne]; exact h0
                clear HM hyr
                generalize atZ M1 y = s at *
                go_wp2
                go_roundw
                case rel => exact ⟨m + 1, M1, X, _, _, _, rfl, by go_num, by omega, HM2, hxz, HL, HZ1, HZ2, HB, hsz⟩
                case measure => simp [intOf]; omega
            · have HM2 := Lib.hid (HM.out.next HQi.out (by rw [HRow.out]; omega))
              clear HM
              go_wp2
              go_roundw
              case rel => exact ⟨i + 1, M1, X, _, _, _, rfl, by go_num, by omega, HM2, hxz, HL, HZ1, HZ2, HB, hsz⟩
              case measure => simp [intOf]; omega
        · have HI2 := Lib.hid (HM.out.over HG.out (by omega))
          have HQ2 := Lib.hid HL.out.que.behind
          have hc2 : Q.length + X.length ≤ cap2 := by have := HL.out.que.cap; rwa [List.length_append] at this
          have hdz2 : d + 1 + zer M1 ≤ h.length + 1 ∨ X.length = 0 ∧ d + 1 + zer M1 ≤ h.length + 2 := by omega
          clear HM HL
          by_cases hcq : cap2 = Q.length
          · rw [if_pos hcq] at HQ2
            go_wp2
            go_roundw
            case rel => exact ⟨d + 1, X, M1, _, _, _, by simp [hcq], by go_num, HI2, hdz2, hX24, HQ2, HZ1, HZ2, HB, hsz⟩
            case measure => simp [intOf]; omega
          · rw [if_neg hcq] at HQ2
            go_wp2
            go_roundw
            case rel => exact ⟨d + 1, X, M1, _, _, _, by simp, by go_num, HI2, hdz2, hX24, HQ2, HZ1, HZ2, HB, hsz⟩
            case measure => simp [intOf]; omega
end Go.Proofs.Ytfgpenekmokdiaa

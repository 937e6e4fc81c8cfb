/- Joined texts. -/
import Derived.Test.YtmdnkpiihhaoeaaMzAO
import Derived.Test.YtmdnkpiihhaoeaaNmNet
namespace Go.Proofs.Ytmdnkpiihhaoeaa
open Go Go.RowKit Fl

/-- The network lies in box X, its lists are the call's own, the robots' row behind all others; what lay below G0 is as it was, but for the tape. -/
structure LS (w : World) (B gt T G0 X base top : Nat) (N : NetD) (Ab An As Ar : Option Addr) (cb cn cs cr : Nat) (wr : World) : Prop where
  nm : NM w B gt T G0 base top N Ab An As Ar cb cn cs cr wr
  box : wr.heap[X]? = some (.cells (netCells Ab An As Ar cb cn cs cr N) 29 (0, 0))
  res : ∃ cz, wr.heap[G0]? = some (.cells cz 29 (0, 0)) ∧ cz.size = 8
  ordX : top ≤ X
section
variable {w wr w' : World} {B gt T G0 X base top : Nat} {N : NetD} {Ab An As Ar : Option Addr} {cb cn cs cr : Nat}
theorem NM.low (h : NM w B gt T G0 base top N Ab An As Ar cb cn cs cr wr) {T' : Nat} (ht : TapeOk w' B gt T') (hs : Still gt G0 wr w') (hz : wr.heap.size ≤ w'.heap.size) (hb : ∀ k, base ≤ k → k < wr.heap.size → w'.heap[k]? = wr.heap[k]?) : NM w B gt T' G0 base top N Ab An As Ar cb cn cs cr w' := by
  obtain ⟨o1, o2, o3, o4⟩ := h.ord
  exact ⟨ht, ownN_to h.blocks fun k hk hlt => hb k (ownN_type h.blocks hk).2 hlt, h.next.keep fun k hk hlt _ => hb k hk hlt, ownN_to h.spurs fun k hk hlt => hb k (ownN_type h.spurs hk).2 hlt, ownN_to h.robots fun k hk hlt => hb k (Nat.le_trans o3 (ownN_type h.robots hk).2) hlt, h.still.trans hs, Nat.le_trans h.size hz, h.ord⟩
theorem LS.cells (h : LS w B gt T G0 X base top N Ab An As Ar cb cn cs cr wr) : BoxAt wr X Ab An As Ar cb cn cs cr N := boxAt_of h.box
theorem LS.froz (h : LS w B gt T G0 X base top N Ab An As Ar cb cn cs cr wr) (i : Nat) : wr.frozen? ⟨X, i, none⟩ = false := by
  have := h.box
  simp [World.frozen?, this]
theorem LS.xlt (h : LS w B gt T G0 X base top N Ab An As Ar cb cn cs cr wr) : X < wr.heap.size := block_lt h.box
theorem LS.next_ (h : LS w B gt T G0 X base top N Ab An As Ar cb cn cs cr wr) (ht : TapeOk w' B gt (T + 1)) (hg : wr.grownBy w' (some gt)) : LS w B gt (T + 1) G0 X base top N Ab An As Ar cb cn cs cr w' := by
  obtain ⟨o1, o2, o3, o4⟩ := h.nm.ord
  have o5 := h.ordX
  have hx := h.xlt
  obtain ⟨cz, z1, z2⟩ := h.res
  exact ⟨h.nm.low ht (Still.of_grown hg (by omega)) hg.size (fun k hk hlt => hg.block k hlt (fun e => by injection e with e; omega)), (hg.block X hx (fun e => by injection e with e; omega)).trans h.box, ⟨cz, (hg.block G0 (by omega) (fun e => by injection e with e; omega)).trans z1, z2⟩, o5⟩
theorem LS.keep (h : LS w B gt T G0 X base top N Ab An As Ar cb cn cs cr wr) (hb : Below wr.heap.size wr w') : LS w B gt T G0 X base top N Ab An As Ar cb cn cs cr w' := by
  obtain ⟨o1, o2, o3, o4⟩ := h.nm.ord
  have o5 := h.ordX
  have hx := h.xlt
  obtain ⟨cz, z1, z2⟩ := h.res
  exact ⟨h.nm.low (h.nm.tape.keep hb) (Still.of_below (hb.mono (by omega))) hb.size (fun k hk hlt => hb.block k hlt), (hb.block X hx).trans h.box, ⟨cz, (hb.block G0 (by omega)).trans z1, z2⟩, o5⟩
theorem LS.more {T' : Nat} (h : LS w B gt T G0 X base top N Ab An As Ar cb cn cs cr wr) (hT : T ≤ T') : LS w B gt T' G0 X base top N Ab An As Ar cb cn cs cr wr :=
  ⟨⟨h.nm.tape.more hT, h.nm.blocks, h.nm.next, h.nm.spurs, h.nm.robots, h.nm.still, h.nm.size, h.nm.ord⟩, h.box, h.res, h.ordX⟩
/-- A row of lanes is emptied. -/
theorem LS.setNil {q k : Nat} (h : LS w B gt T G0 X base top N Ab (some ⟨q, 0, none⟩) As Ar cb cn cs cr wr) : LS w B gt T G0 X base top { N with next := N.next.set k [] } Ab (some ⟨q, 0, none⟩) As Ar cb cn cs cr (wr.setCell ⟨q, k, none⟩ (.slice none 0 0)) := by
  obtain ⟨o1, o2, o3, o4⟩ := h.nm.ord
  have o5 := h.ordX
  have hx := h.xlt
  obtain ⟨cz, z1, z2⟩ := h.res
  obtain ⟨vs, v1, v2, v3⟩ := h.nm.next
  obtain ⟨⟨cq, hq⟩, hqb⟩ := ownN_type v2 (k := q) rfl
  have hqx : q ≠ X := fun e => by
    rw [e, h.box] at hq
    injection hq with hq
    injection hq with _ hq
    exact absurd hq (by decide)
  have hg : wr.grownBy (wr.setCell ⟨q, k, none⟩ (.slice none 0 0)) (some q) := put_grown _ _ _ _
  have key : ∀ {n size : Nat} {e : TypeId} {v : Value} {xs : List Value} {b : Nat}, 25 ≠ e → wr.ownsRow b e size v n xs → (wr.setCell ⟨q, k, none⟩ (.slice none 0 0)).ownsRow b e size v n xs := fun hne hh => ownN_to hh fun j hj hlt => hg.block j hlt (fun e => by
    injection e with e
    obtain ⟨⟨cs, h1⟩, _⟩ := ownN_type hh hj
    rw [e, hq] at h1
    injection h1 with h1
    injection h1 with _ h1
    exact hne h1)
  have hlen : (N.next.set k []).length = N.next.length := by simp
  refine ⟨⟨h.nm.tape.grown hg (fun e => by injection e with e; omega) (fun j hj => by injection hj with hj; omega), key (by decide) h.nm.blocks, ?_, key (by decide) h.nm.spurs, key (by decide) h.nm.robots, h.nm.still.trans ⟨rfl, rfl, rfl, hg.size, fun j hj _ => hg.block j (by omega) (fun e => by injection e with e; omega)⟩, Nat.le_trans h.nm.size hg.size, h.nm.ord⟩, ?_, ⟨cz, (hg.block G0 (by omega) (fun e => by injection e with e; omega)).trans z1, z2⟩, o5⟩
  · refine ⟨vs.set k (.slice none 0 0), by simpa using v1, ?_, fun j u r hj hr => ?_⟩
    · simp only [hlen]
      exact own_put v2
    · rw [List.getElem?_set] at hj hr
      by_cases e : k = j
      · subst e
        rw [if_pos rfl] at hj hr
        split at hj
        · split at hr
          · injection hj with hj
            injection hr with hr
            subst hj hr
            exact ⟨World.ownsRow_nil _ _ _ _, fun i hi => by simp [Value.ownBlock] at hi⟩
          · cases hr
        · cases hj
      · rw [if_neg e] at hj hr
        exact ⟨key (by decide) (v3 j u r hj hr).1, (v3 j u r hj hr).2⟩
  · rw [hg.block X hx (fun e => by injection e with e; exact hqx e.symm), h.box]
    show some (Obj.cells #[.slice Ab N.blocks.length cb, .slice (some ⟨q, 0, none⟩) N.next.length cn, .slice As N.spurs.length cs, .slice Ar N.robots.length cr, Iv N.queue, Iv N.aging, Iv N.detours, Iv N.patience] 29 (0, 0)) = some (Obj.cells #[.slice Ab N.blocks.length cb, .slice (some ⟨q, 0, none⟩) (N.next.set k []).length cn, .slice As N.spurs.length cs, .slice Ar N.robots.length cr, Iv N.queue, Iv N.aging, Iv N.detours, Iv N.patience] 29 (0, 0))
    rw [hlen]
/-- A robot appended: the row first, then the box. -/
theorem LS.push {gg cap : Nat} {x : Int} {o : Obj} (h : LS w B gt T G0 X base top N Ab An As Ar cb cn cs cr wr) (hg : (wr.alloc o).grownBy w' (Value.slice Ar N.robots.length cr).ownBlock) (ho : w'.ownsRow top 3 1 (.slice (some ⟨gg, 0, none⟩) (N.robots.length + 1) cap) (N.robots.length + 1) (N.robots.map Iv ++ [Iv x])) :
    LS w B gt T G0 X base top { N with robots := N.robots ++ [x] } Ab An As (some ⟨gg, 0, none⟩) cb cn cs cap (w'.setCell ⟨X, 3, none⟩ (.slice (some ⟨gg, 0, none⟩) (N.robots.length + 1) cap)) := by
  have h1 := h.keep ((Below.refl _ _).alloc (Nat.le_refl _) o)
  obtain ⟨o1, o2, o3, o4⟩ := h.nm.ord
  have o5 := h.ordX
  have hx := h1.xlt
  obtain ⟨cz, z1, z2⟩ := h1.res
  have hrow : ∀ k, (Value.slice Ar N.robots.length cr).ownBlock = some k → (∃ cs, (wr.alloc o).heap[k]? = some (.cells cs 3 (0, 0))) ∧ top ≤ k := fun k hk => ownN_type h1.nm.robots hk
  have ne : ∀ k, k < top → some k ≠ (Value.slice Ar N.robots.length cr).ownBlock := fun k hk e => by have := (hrow k e.symm).2; omega
  have hXn : some X ≠ (Value.slice Ar N.robots.length cr).ownBlock := fun e => by
    obtain ⟨⟨cs, h2⟩, _⟩ := hrow X e.symm
    rw [h1.box] at h2
    injection h2 with h2
    injection h2 with _ h2
    exact absurd h2 (by decide)
  have hset : ∀ k, k ≠ X → (w'.setCell ⟨X, 3, none⟩ (.slice (some ⟨gg, 0, none⟩) (N.robots.length + 1) cap)).heap[k]? = w'.heap[k]? := fun k hk => Below.heap_setCell _ _ _ _ hk
  have hbox := (hg.block X hx hXn).trans h1.box
  have hlen : (N.robots ++ [x]).length = N.robots.length + 1 := by simp
  have key : ∀ {n size : Nat} {e : TypeId} {v : Value} {xs : List Value} {b : Nat}, 3 ≠ e → 29 ≠ e → (wr.alloc o).ownsRow b e size v n xs → (w'.setCell ⟨X, 3, none⟩ (.slice (some ⟨gg, 0, none⟩) (N.robots.length + 1) cap)).ownsRow b e size v n xs := fun hne hnx hh => ownN_to hh fun j hj hlt => by
    obtain ⟨⟨cs, h2⟩, _⟩ := ownN_type hh hj
    refine (hset j fun e => ?_).trans (hg.block j hlt fun e => ?_)
    · rw [e, h1.box] at h2
      injection h2 with h2
      injection h2 with _ h2
      exact hnx h2
    · obtain ⟨⟨cs', h3⟩, _⟩ := hrow j e.symm
      rw [h3] at h2
      injection h2 with h2
      injection h2 with _ h2
      exact hne h2
  have low : ∀ k, k < top → (w'.setCell ⟨X, 3, none⟩ (.slice (some ⟨gg, 0, none⟩) (N.robots.length + 1) cap)).heap[k]? = (wr.alloc o).heap[k]? := fun k hk => (hset k (by omega)).trans (hg.block k (by have := h1.nm.size; omega) (ne k hk))
  have hz : (wr.alloc o).heap.size ≤ (w'.setCell ⟨X, 3, none⟩ (.slice (some ⟨gg, 0, none⟩) (N.robots.length + 1) cap)).heap.size := by have := hg.size; simp [World.setCell] at *; omega
  refine ⟨⟨?_, key (by decide) (by decide) h1.nm.blocks, ?_, key (by decide) (by decide) h1.nm.spurs, ?_, h1.nm.still.trans ⟨hg.os, hg.tape, hg.output, hz, fun k hk _ => low k (by omega)⟩, Nat.le_trans h1.nm.size hz, h.nm.ord⟩, ?_, ⟨cz, (low G0 (by omega)).trans z1, z2⟩, o5⟩
  · have h2 : TapeOk w' B gt T := h1.nm.tape.grown hg (fun e => ne gt (by omega) e.symm) (fun k hk => by have := (hrow k hk).2; omega)
    exact h2.grown (row := some X) (put_grown _ _ _ _) (fun e => by injection e with e; omega) (fun k hk => by injection hk with hk; omega)
  · obtain ⟨vs, v1, v2, v3⟩ := h1.nm.next
    exact ⟨vs, v1, key (by decide) (by decide) v2, fun k u r a b => ⟨ownN_to (v3 k u r a b).1 fun j hj _ => low j ((v3 k u r a b).2 j hj), (v3 k u r a b).2⟩⟩
  · simp only [hlen]
    have h2 : w'.ownsRow top 3 1 (.slice (some ⟨gg, 0, none⟩) (N.robots.length + 1) cap) (N.robots.length + 1) ((N.robots ++ [x]).map Iv) := by
      rw [List.map_append]; exact ho
    refine ownN_to h2 fun k hk hlt => hset k fun e => ?_
    obtain ⟨⟨cs, h3⟩, _⟩ := ownN_type h2 hk
    rw [e, hbox] at h3
    injection h3 with h3
    injection h3 with _ h3
    exact absurd h3 (by decide)
  · rw [set1_at hbox]
    show _ = some (Obj.cells #[.slice Ab N.blocks.length cb, .slice An N.next.length cn, .slice As N.spurs.length cs, .slice (some ⟨gg, 0, none⟩) (N.robots ++ [x]).length cap, Iv N.queue, Iv N.aging, Iv N.detours, Iv N.patience] 29 (0, 0))
    rw [hlen]
    rfl
theorem LS.behind {o : Obj} (h : LS w B gt T G0 X base top N Ab An As Ar cb cn cs cr wr) (hg : (wr.alloc o).grownBy w' (Value.slice Ar N.robots.length cr).ownBlock) : w'.cell? ⟨X, 3, none⟩ = some (.slice Ar N.robots.length cr) ∧ w'.frozen? ⟨X, 3, none⟩ = false := by
  have h1 := h.keep ((Below.refl _ _).alloc (Nat.le_refl _) o)
  have hXn : some X ≠ (Value.slice Ar N.robots.length cr).ownBlock := fun e => by
    obtain ⟨⟨cs, h2⟩, _⟩ := ownN_type h1.nm.robots e.symm
    rw [h1.box] at h2
    injection h2 with h2
    injection h2 with _ h2
    exact absurd h2 (by decide)
  have e1 := (hg.block X h1.xlt hXn).trans h1.box
  exact ⟨(boxAt_of e1).c3, by simp [World.frozen?, e1]⟩
theorem NM.rowCell {q k : Nat} (h : NM w B gt T G0 base top N Ab (some ⟨q, 0, none⟩) As Ar cb cn cs cr wr) (hk : k < N.next.length) : ∃ u, wr.cell? ⟨q, k, none⟩ = some u ∧ wr.frozen? ⟨q, k, none⟩ = false := by
  obtain ⟨vs, v1, v2, _⟩ := h.next
  exact ⟨vs[k]'(by omega), own_get v2 (List.getElem?_eq_getElem _)⟩
theorem NM.head (h : NM w B gt T G0 base top N Ab An As Ar cb cn cs cr wr) (h0 : 0 < N.next.length) : ∃ q, An = some ⟨q, 0, none⟩ := by
  obtain ⟨vs, _, v2, _⟩ := h.next
  obtain ⟨q, cap, e, _⟩ := own_at v2 h0
  injection e with e1 _ _
  exact ⟨q, e1⟩
theorem NM.headS (h : NM w B gt T G0 base top N Ab An As Ar cb cn cs cr wr) (h0 : 0 < N.spurs.length) : ∃ q, As = some ⟨q, 0, none⟩ := by
  obtain ⟨_, h2⟩ := h.spurs
  rcases h2 with ⟨_, hn⟩ | ⟨g, cap, cur, hv, _⟩
  · omega
  · injection hv with e1 _ _
    exact ⟨g, e1⟩
theorem NM.spur {gs k : Nat} (h : NM w B gt T G0 base top N Ab An (some ⟨gs, 0, none⟩) Ar cb cn cs cr wr) (hk : k < N.spurs.length) : wr.cell? ⟨gs, k * 6 + 1, none⟩ = some (Bo N.spurs[k].depot) ∧ wr.cell? ⟨gs, k * 6 + 4, none⟩ = some (Iv N.spurs[k].slots) ∧ wr.cell? ⟨gs, k * 6 + 5, none⟩ = some (Iv N.spurs[k].base) := by
  obtain ⟨bs, os, e, _, h1⟩ := (ownsRow_holds h.spurs).spur hk
  injection e with e
  injection e with e1 e2
  subst e1 e2
  have c1 := h1.c1
  have c4 := h1.c4
  have c5 := h1.c5
  simp only [Nat.zero_add] at c1 c4 c5
  exact ⟨c1, c4, c5⟩
theorem NM.capR (h : NM w B gt T G0 base top N Ab An As Ar cb cn cs cr wr) : N.robots.length ≤ cr := by
  obtain ⟨_, h2⟩ := h.robots
  rcases h2 with ⟨_, h0⟩ | ⟨g, cap, cur, hv, _, _, hn, _⟩
  · omega
  · injection hv with _ _ hc
    omega
theorem NM.at_ (h : NM w B gt T G0 base top N Ab An As Ar cb cn cs cr wr) : NetAt wr Ab An As Ar N := by
  obtain ⟨A, c, h1, h2⟩ := h.next.own.at_
  injection h1 with h1
  subst h1
  exact ⟨ownsRow_holds h.blocks, h2, ownsRow_holds h.spurs, ownsRow_holds h.robots⟩
theorem nm_more {T' : Nat} (h : NM w B gt T G0 base top N Ab An As Ar cb cn cs cr wr) (hT : T ≤ T') : NM w B gt T' G0 base top N Ab An As Ar cb cn cs cr wr :=
  ⟨h.tape.more hT, h.blocks, h.next, h.spurs, h.robots, h.still, h.size, h.ord⟩
/-- What is returned: the box is read, the result's box is written. -/
theorem LS.done {W : World} (h : LS w B gt T G0 X base top N Ab An As Ar cb cn cs cr wr) (hg : wr.grownBy W (some G0)) : NM w B gt T G0 base top N Ab An As Ar cb cn cs cr W := by
  obtain ⟨o1, o2, o3, o4⟩ := h.nm.ord
  have o5 := h.ordX
  have hx := h.xlt
  exact h.nm.low (h.nm.tape.grown hg (fun e => by injection e with e; omega) (fun k hk => by injection hk with hk; omega)) ⟨hg.os, hg.tape, hg.output, hg.size, fun k hk _ => hg.block k (by omega) (fun e => by injection e with e; omega)⟩ hg.size (fun k hk hlt => hg.block k hlt (fun e => by injection e with e; omega))
end
/-- What is known of a network that was loosened. -/
structure LooseMade (most : Nat) (N : NetD) : Prop where
  ok : NetOk N
  most_ : N.blocks.length ≤ most
  blocks : MadeB N.blocks
  graph : GrOk N.blocks.length N.next
  spurs : MadeS N.blocks.length N.spurs
  spurs3 : 3 ≤ N.spurs.length
  spurs5 : N.spurs.length ≤ 5
  robots1 : 1 ≤ N.robots.length
theorem LooseMade.setNil {most : Nat} {N : NetD} (h : LooseMade most N) (k : Nat) : LooseMade most { N with next := N.next.set k [] } := by
  have h1 : ∀ r ∈ N.next.set k [], r.length ≤ 4 := outs_set h.ok.outs (by simp)
  have h2 : GrOk N.blocks.length (N.next.set k []) := h.graph.row .nil (fun x hx => by simp at hx)
  exact ⟨⟨h.ok.some, h.ok.few, by simp only [List.length_set]; exact h.ok.lanes, h.ok.places, h1, h2.valid h.ok.few, h.ok.spurs6, h.ok.named, h.ok.apart, h.ok.robots8, h.ok.conf, h.ok.spurOk, h.ok.bases, h.ok.homes, h.ok.once, h.ok.depot⟩, h.most_, h.blocks, h2, h.spurs, h.spurs3, h.spurs5, h.robots1⟩
theorem LooseMade.push {most : Nat} {N : NetD} (h : LooseMade most N) {x : Int} (h8 : N.robots.length < 8) (hd : inDepot N.spurs x) (hn : x ∉ N.robots) : LooseMade most { N with robots := N.robots ++ [x] } :=
  ⟨h.ok.robots (by simp; omega) (fun y hy => by
      rcases List.mem_append.1 hy with hy | hy
      · exact h.ok.homes y hy
      · rw [List.mem_singleton.1 hy]; exact hd) (List.nodup_append.2 ⟨h.ok.once, by simp, fun y hy z hz e => by
      rw [List.mem_singleton.1 hz] at e
      exact hn (e ▸ hy)⟩), h.most_, h.blocks, h.graph, h.spurs, h.spurs3, h.spurs5, by simp⟩
theorem NetMade.loose {most : Nat} {N : NetD} (h : NetMade most N) : LooseMade most N := ⟨h.ok, h.most_, h.blocks, h.graph, h.spurs, h.spurs3, h.spurs5, h.robots1⟩
end Go.Proofs.Ytmdnkpiihhaoeaa
namespace Go.Proofs.Ytmdnkpiihhaoeaa
open Go Go.RowKit Fl

/-- What Loose returns. -/
def LoosePost (w : World) (B gt T most : Nat) (e : Ending) (w' : World) : Prop := ∃ (N : NetD) (Ab An As Ar : Option Addr) (cb cn cs cr top : Nat), e = .returned (.agg #[.slice Ab N.blocks.length cb, .slice An N.next.length cn, .slice As N.spurs.length cs, .slice Ar N.robots.length cr, Iv N.queue, Iv N.aging, Iv N.detours, Iv N.patience]) ∧ LooseMade most N ∧ NM w B gt (T + 300) w.heap.size (w.heap.size + 3) top N Ab An As Ar cb cn cs cr w'
theorem ls_start {w w1 : World} {B gt T top : Nat} {N : NetD} {Ab An As Ar : Option Addr} {cb cn cs cr : Nat} (hM : NM (w.alloc (.cells #[.slice none 0 0, .slice none 0 0, .slice none 0 0, .slice none 0 0, .int .i64 0, .int .i64 0, .int .i64 0, .int .i64 0] 29)) B gt T (w.alloc (.cells #[.slice none 0 0, .slice none 0 0, .slice none 0 0, .slice none 0 0, .int .i64 0, .int .i64 0, .int .i64 0, .int .i64 0] 29)).heap.size ((w.alloc (.cells #[.slice none 0 0, .slice none 0 0, .slice none 0 0, .slice none 0 0, .int .i64 0, .int .i64 0, .int .i64 0, .int .i64 0] 29)).heap.size + 2) top N Ab An As Ar cb cn cs cr w1) (hgt : gt < w.heap.size) : LS w B gt T w.heap.size w1.heap.size (w.heap.size + 3) top N Ab An As Ar cb cn cs cr (w1.alloc (.cells (netCells Ab An As Ar cb cn cs cr N) 29)) := by
  have e : (w.alloc (.cells #[.slice none 0 0, .slice none 0 0, .slice none 0 0, .slice none 0 0, .int .i64 0, .int .i64 0, .int .i64 0, .int .i64 0] 29)).heap.size = w.heap.size + 1 := by simp
  rw [e] at hM
  obtain ⟨o1, o2, o3, o4⟩ := hM.ord
  have hz := hM.size
  have hs := hM.still
  have hb : Below w.heap.size w (w.alloc (.cells #[.slice none 0 0, .slice none 0 0, .slice none 0 0, .slice none 0 0, .int .i64 0, .int .i64 0, .int .i64 0, .int .i64 0] 29)) := (Below.refl _ _).alloc (Nat.le_refl _) _
  have h1 : NM w B gt T w.heap.size (w.heap.size + 3) top N Ab An As Ar cb cn cs cr w1 := ⟨hM.tape, hM.blocks, hM.next, hM.spurs, hM.robots, (Still.of_below hb).trans ⟨hs.os, hs.tape, hs.output, hs.size, fun k hk hg => hs.block k (by omega) hg⟩, hM.size, by omega, by omega, by omega, o4⟩
  have hb2 : Below w1.heap.size w1 (w1.alloc (.cells (netCells Ab An As Ar cb cn cs cr N) 29)) := (Below.refl _ _).alloc (Nat.le_refl _) _
  refine ⟨h1.low (h1.tape.keep hb2) (Still.of_below (hb2.mono (by omega))) hb2.size (fun k hk hlt => hb2.block k hlt), heap_alloc_new _ _, ⟨_, (hb2.block w.heap.size (by omega)).trans ((hs.block w.heap.size (by omega) (by omega)).trans (heap_alloc_new w _)), rfl⟩, hz⟩
set_option maxRecDepth 100000 in
set_option maxHeartbeats 16000000 in
theorem loose_c (B gt T most : Nat) (w : World) (ht : TapeOk w B gt T) (hT : T ≤ 50000) (hm : 1 ≤ most ∧ most ≤ 8) (hgt : gt < w.heap.size) (hB : B ≤ gt) :
    Calls Try.prog 7 #[.pointer (some ⟨gt, 0, none⟩), .int .i64 most] w (LoosePost w B gt T most) := by
  have HT0 := Lib.hid (ht.keep (w' := w.alloc (.cells #[.slice none 0 0, .slice none 0 0, .slice none 0 0, .slice none 0 0, .int .i64 0, .int .i64 0, .int .i64 0, .int .i64 0] 29)) ((Below.refl w.heap.size w).alloc (Nat.le_refl _) (.cells #[.slice none 0 0, .slice none 0 0, .slice none 0 0, .slice none 0 0, .int .i64 0, .int .i64 0, .int .i64 0, .int .i64 0] 29)))
  have HSt := Lib.hid (fun (w1 : World) (T' top : Nat) N Ab An As Ar cb cn cs cr hM => ls_start (w := w) (w1 := w1) (B := B) (gt := gt) (T := T') (top := top) (N := N) (Ab := Ab) (An := An) (As := As) (Ar := Ar) (cb := cb) (cn := cn) (cs := cs) (cr := cr) hM hgt)
  clear ht
  go_enter Try.func7, Try.ntmps7
  go_wp2_with fail
  refine (net_c B gt T most _ HT0.out (by omega) hm (by simp; omega) hB).mono ?_
  rintro e w1 ⟨N, Ab, An, As, Ar, cb, cn, cs, cr, top, rfl, hN, hM⟩
  have HL0 := Lib.hid (HSt.out w1 _ top N Ab An As Ar cb cn cs cr hM)
  have HM0 := Lib.hid hN.loose
  clear hN hM HT0 HSt
  obtain ⟨X, hX⟩ : ∃ X, X = w1.heap.size := ⟨_, rfl⟩
  have hnb := HM0.out.ok.some
  have hnl := HM0.out.ok.lanes
  have hn24 := HM0.out.ok.few
  obtain ⟨q, rfl⟩ : ∃ q, An = some ⟨q, 0, none⟩ := by
    obtain ⟨vs, _, v2, _⟩ := HL0.out.nm.next
    obtain ⟨q, cap, e, _⟩ := own_at v2 (by omega)
    injection e with e1 _ _
    exact ⟨q, e1⟩
  obtain ⟨gs, rfl⟩ : ∃ gs, As = some ⟨gs, 0, none⟩ := HL0.out.nm.headS (by have := HM0.out.spurs3; omega)
  rw [← hX] at HL0
  have HNL := Lib.hid hnl
  clear hnl
  go_upto_region 2 with fail
  rw [← hX]
  clear hX
  go_cut [20] (fun c wx => ∃ d : Bool, c = .bool d ∧ (d = true → 1 < N.blocks.length) ∧ Hid (LS w B gt (T + 200 + 1) w.heap.size X (w.heap.size + 3) top N Ab (some ⟨q, 0, none⟩) (some ⟨gs, 0, none⟩) Ar cb cn cs cr wx))
  case first =>
    have c0 := HL0.out.cells.c0
    go_wp2_with fail
    refine (next_c B gt _ 3 _ HL0.out.nm.tape (by omega) (by omega) (by omega)).mono ?_
    rintro e w2 ⟨r2, hr2, rfl, ht2, hg2⟩
    have H2 := Lib.hid (HL0.out.next_ ht2 hg2)
    have c02 := H2.out.cells.c0
    clear ht2 hg2 c0
    rcases Nat.eq_zero_or_pos r2 with h0 | h0
    · obtain rfl := h0
      by_cases h1 : 1 < N.blocks.length
      · go_wp2_with fail
        go_meet
        case rel => exact ⟨_, rfl, fun _ => h1, H2⟩
      · go_wp2_with fail
        go_meet
        case rel => exact ⟨_, rfl, fun h => by (first | (simp at h; done) | (simp [*] at h; done) | (simp at h; omega)), H2⟩
    · have hb0 : ((r2 : Int) == 0) = false := by rw [beq_eq_false_iff_ne]; omega
      go_wp2_with fail
      go_meet
      case rel => exact ⟨_, rfl, fun h => by (first | (simp at h; done) | (simp [*] at h; done) | (simp at h; omega)), H2⟩
  case rest =>
    obtain ⟨d, rfl, hd, HL⟩ := hcut
    clear HL0
    go_upto_if 20 with fail
    go_cut [] (fun wx => ∃ N2 : NetD, N2.blocks.length = N.blocks.length ∧ N2.next.length = N.next.length ∧ N2.spurs.length = N.spurs.length ∧ N2.robots.length = N.robots.length ∧ Hid (LooseMade most N2) ∧ Hid (LS w B gt (T + 200 + 1 + 1) w.heap.size X (w.heap.size + 3) top N2 Ab (some ⟨q, 0, none⟩) (some ⟨gs, 0, none⟩) Ar cb cn cs cr wx))
    case first =>
      rcases d with _ | _
      · go_wp2
        go_meet
        case rel => exact ⟨N, rfl, rfl, rfl, rfl, HM0, Lib.hid (HL.out.more (by omega))⟩
      · have h1b := hd rfl
        have HLd := Lib.hid (HL.out.keep (w' := wc.drew) (Below.refl _ _).drew)
        have c0 := HLd.out.cells.c0
        have c1 := HLd.out.cells.c1
        have c0' : wc.cell? ⟨X, 0, none⟩ = some (.slice Ab N.blocks.length cb) := c0
        have c1' : wc.cell? ⟨X, 1, none⟩ = some (.slice (some ⟨q, 0, none⟩) N.next.length cn) := c1
        go_wp2_with fail
        go_region_law (first | (go_simp; go_at_call 11; refine (next_c B gt _ N.blocks.length _ HLd.out.nm.tape (by omega) (by omega) (by omega)).mono ?_; rintro e w3 ⟨r3, hr3, rfl, ht3, hg3⟩; have H3 := Lib.hid (HLd.out.next_ ht3 hg3); have c13 := H3.out.cells.c1; have hr3' : r3 < N.next.length := (by rw [HNL.out]; omega); obtain ⟨u, v1, v2⟩ := H3.out.nm.rowCell (k := r3) hr3'; clear ht3 hg3))
        all_goals
          have HP := Lib.hid (H3.out.setNil (k := r3))
          go_wp2_with fail
          go_meet
          case rel => exact ⟨{ N with next := N.next.set r3 [] }, rfl, by simp, rfl, rfl, Lib.hid (HM0.out.setNil r3), Lib.hid (HP.out.more (by omega))⟩
    case rest =>
      obtain ⟨N2, hl1, hl2, hl3, hl4, HM2, HL2⟩ := hcut
      clear hl1 hl2 hl3 hl4
      clear HL HM0 hd
      go_wp2_with fail
      refine (next_c B gt _ 3 _ HL2.out.nm.tape (by omega) (by omega) (by omega)).mono ?_
      rintro e w4 ⟨r4, hr4, rfl, ht4, hg4⟩
      have H4 := Lib.hid (HL2.out.next_ ht4 hg4)
      clear ht4 hg4 HL2
      rcases Nat.eq_zero_or_pos r4 with h0 | h0
      · obtain rfl := h0
        have HI : Hid (∀ (k : Nat) (h : k < N2.spurs.length), (0 ≤ N2.spurs[k].slots ∧ N2.spurs[k].slots ≤ 4) ∧ 0 ≤ N2.spurs[k].base ∧ N2.spurs[k].base ≤ 100) := Lib.hid (fun k h => by
          have h1 := (HM2.out.ok.spurOk _ (List.getElem_mem h)).slots
          have h2 := HM2.out.ok.bases k h
          have h3 := slotsK_bounds (l := N2.spurs) (fun s hs => by have := (HM2.out.ok.spurOk s hs).slots; omega) k (by omega)
          have h4 := HM2.out.ok.few
          have h5 := HM2.out.ok.spurs6
          omega)
        have hm5 := HM2.out.spurs5
        have hrb8 := HM2.out.ok.robots8
        have c2 := H4.out.cells.c2
        go_wp2
        go_loopw [6] (fun iv wr => ∃ (i : Nat) (rb : List Int) (Ar : Option Addr) (cr : Nat), iv = .int .i64 i ∧ i ≤ N2.spurs.length ∧ Hid (LooseMade most { N2 with robots := rb }) ∧ Hid (LS w B gt (T + 200 + 1 + 1 + 1) w.heap.size X (w.heap.size + 3) top { N2 with robots := rb } Ab (some ⟨q, 0, none⟩) (some ⟨gs, 0, none⟩) Ar cb cn cs cr wr)) (fun iv _ => N2.spurs.length - (intOf iv).toNat)
        case atStart => exact ⟨0, N2.robots, Ar, cr, rfl, Nat.zero_le _, HM2, H4⟩
        case round =>
          clear HM2 H4 c2 hrb8
          obtain ⟨i, rb, Ar, cr, rfl, him, HM, H⟩ := hrel
          have c2 := H.out.cells.c2
          simp only at c2
          by_cases hi : i < N2.spurs.length
          · obtain ⟨⟨hs0, hs4⟩, hb0, hb100⟩ := HI.out i hi
            have HSp : Hid (∀ (rb : List Int) (Ar : Option Addr) (cr : Nat) (W : World), LS w B gt (T + 200 + 1 + 1 + 1) w.heap.size X (w.heap.size + 3) top { N2 with robots := rb } Ab (some ⟨q, 0, none⟩) (some ⟨gs, 0, none⟩) Ar cb cn cs cr W → W.cell? ⟨gs, i * 6 + 1, none⟩ = some (Bo N2.spurs[i].depot) ∧ W.cell? ⟨gs, i * 6 + 4, none⟩ = some (Iv N2.spurs[i].slots) ∧ W.cell? ⟨gs, i * 6 + 5, none⟩ = some (Iv N2.spurs[i].base)) := Lib.hid (fun rb Ar cr W h => h.nm.spur (k := i) hi)
            have HDp : Hid (∀ x : Int, N2.spurs[i].depot = true → N2.spurs[i].base ≤ x → x < N2.spurs[i].base + N2.spurs[i].slots → inDepot N2.spurs x) := Lib.hid (fun x h1 h2 h3 => ⟨_, List.getElem_mem hi, h1, h2, h3⟩)
            generalize N2.spurs[i] = s at *
            obtain ⟨nm, dp, si, so, sw, sb⟩ := s
            simp only at hs0 hs4 hb0 hb100 HSp HDp
            go_wp2
            go_loopw [7] (fun jv wr => ∃ (j : Nat) (rb : List Int) (Ar : Option Addr) (cr : Nat), jv = .int .i64 j ∧ (j : Int) ≤ sw ∧ Hid (LooseMade most { N2 with robots := rb }) ∧ Hid (LS w B gt (T + 200 + 1 + 1 + 1) w.heap.size X (w.heap.size + 3) top { N2 with robots := rb } Ab (some ⟨q, 0, none⟩) (some ⟨gs, 0, none⟩) Ar cb cn cs cr wr)) (fun jv _ => sw.toNat - (intOf jv).toNat)
            case atStart => exact ⟨0, rb, Ar, cr, rfl, by omega, HM, H⟩
            case round =>
              clear HM H c2
              clear rb Ar cr
              obtain ⟨j, rb, Ar, cr, rfl, hjs, HM, H⟩ := hrel
              have c2 := H.out.cells.c2
              have c3 := H.out.cells.c3
              simp only at c2 c3
              have f3 := H.out.froz 3
              obtain ⟨s1, s4, s5⟩ := HSp.out _ _ _ _ H.out
              have hr8 : rb.length ≤ 8 := HM.out.ok.robots8
              by_cases hj : (j : Int) < sw
              · rcases dp with _ | _
                · go_wp2
                  go_roundw
                  case rel => exact ⟨i + 1, rb, Ar, cr, by go_num, by omega, HM, H⟩
                  case measure => simp [intOf]; omega
                · by_cases h8 : rb.length < 8
                  · have hwx : IntKind.i64.wrap (sb + (j : Int)) = sb + (j : Int) := IntWalk.i64_in _ (by omega)
                    have CH := Lib.hid (has_c Ar cr rb (sb + (j : Int)) wr (ownsRow_holds H.out.nm.robots) (by omega))
                    by_cases hin : sb + (j : Int) ∈ rb
                    · rw [decide_eq_true hin] at CH
                      clear hin
                      go_wp2_with fail
                      refine CH.out.mono ?_
                      rintro e wj ⟨rfl, rfl⟩
                      go_wp2
                      go_roundw
                      case rel => exact ⟨j + 1, rb, Ar, cr, by go_num, by omega, HM, H⟩
                      case measure => simp [intOf]; omega
                    · rw [decide_eq_false hin] at CH
                      have HM3 : Hid (LooseMade most { N2 with robots := rb ++ [sb + (j : Int)] }) := Lib.hid (HM.out.push h8 (HDp.out _ rfl (by omega) (by omega)) hin)
                      clear hin
                      have HRo : Hid (∀ ob, (wr.alloc ob).ownsRow top 3 1 (.slice Ar rb.length cr) rb.length (rb.map Iv)) := Lib.hid (fun ob => H.out.nm.robots.alloc ob)
                      have HSA : Hid (∀ ob, top ≤ (wr.alloc ob).heap.size) := Lib.hid (fun ob => Nat.le_trans H.out.nm.size (by simp))
                      have c3a : ∀ ob, (wr.alloc ob).cell? ⟨X, 3, none⟩ = some (.slice Ar rb.length cr) := fun ob => alloc_cells c3 ob
                      obtain ⟨j0, hj0, hz0, hz1, hz2⟩ := info_parts Try.infoIntG
                      go_wp2_with fail
                      refine CH.out.mono ?_
                      rintro e wj ⟨rfl, rfl⟩
                      go_wp2_with (at_builtin; refine wpList_append_lies _ rfl _ _ 25 rfl top 3 j0 (.int .i64 0) 1 8 Try.underlying25 hj0 hz0 hz1 hz2 rfl (by omega) (.slice Ar rb.length cr) rb.length (rb.map Iv) (by rfl) (HRo.out _) ⟨_, 0, none⟩ 1 1 [Iv (sb + (j : Int))] (by rfl) (by rfl) (World.news_of_block (cs := #[Iv (sb + (j : Int))]) (t := 3) (fr := (0, 0)) (heap_alloc_new _ _)) (by simp [Value.oneCell']) (by omega) (by unfold maxLen; omega) (by omega) (HSA.out _) _ rfl ?_)
                      intro gg cap wn hown hgrow hat hlt
                      obtain ⟨y1, y2⟩ := H.out.behind hgrow
                      simp only at y1
                      have HQ := Lib.hid (H.out.push hgrow hown)
                      clear hown hgrow hat hlt HRo HSA c3a H HM CH
                      go_wp2
                      go_roundw
                      case rel => exact ⟨j + 1, rb ++ [sb + (j : Int)], some ⟨gg, 0, none⟩, cap, by go_num, by omega, HM3, HQ⟩
                      case measure => simp [intOf]; omega
                  · go_wp2
                    go_roundw
                    case rel => exact ⟨i + 1, rb, Ar, cr, by go_num, by omega, HM, H⟩
                    case measure => simp [intOf]; omega
              · have hje : (j : Int) = sw := by omega
                go_wp2
                go_roundw
                case rel => exact ⟨i + 1, rb, Ar, cr, by go_num, by omega, HM, H⟩
                case measure => simp [intOf]; omega
          · obtain ⟨cz, g1, g2⟩ := H.out.res
            obtain ⟨a0, a1, a2, a3, a4, a5, a6, a7, rfl, d0, d1, d2, d3, d4, d5, d6, d7, dz⟩ := row8_c g1 g2
            have HG3 := Lib.hid g1
            have z0 := dz 0
            have z1 := dz 1
            have z2 := dz 2
            have z3 := dz 3
            have z4 := dz 4
            have z5 := dz 5
            have z6 := dz 6
            have z7 := dz 7
            clear g1 g2 dz
            obtain ⟨b0, b1, b2, b3, b4, b5, b6, b7⟩ := H.out.cells
            have HDone := Lib.hid (fun W hg => LS.done (W := W) H.out hg)
            go_wp2
            refine bodyPost_ret (results_cell_row rfl _ _ w.heap.size 29 _ (0, 0) _ rfl (set8_at HG3.out) Try.underlying29 rfl (by kernel_rfl)) rfl ?_
            refine ⟨{ N2 with robots := rb }, Ab, some ⟨q, 0, none⟩, some ⟨gs, 0, none⟩, Ar, cb, cn, cs, cr, top, rfl, HM.out, ?_⟩
            exact nm_more (HDone.out _ (set8_grown _ _ _ _ _ _ _ _ _ _)) (by omega)
      · have hb0 : ((r4 : Int) == 0) = false := by rw [beq_eq_false_iff_ne]; omega
        obtain ⟨cz, g1, g2⟩ := H4.out.res
        obtain ⟨a0, a1, a2, a3, a4, a5, a6, a7, rfl, d0, d1, d2, d3, d4, d5, d6, d7, dz⟩ := row8_c g1 g2
        have HG3 := Lib.hid g1
        have z0 := dz 0
        have z1 := dz 1
        have z2 := dz 2
        have z3 := dz 3
        have z4 := dz 4
        have z5 := dz 5
        have z6 := dz 6
        have z7 := dz 7
        clear g1 g2 dz
        obtain ⟨b0, b1, b2, b3, b4, b5, b6, b7⟩ := H4.out.cells
        have HDone := Lib.hid (fun W hg => LS.done (W := W) H4.out hg)
        go_wp2
        refine bodyPost_ret (results_cell_row rfl _ _ w.heap.size 29 _ (0, 0) _ rfl (set8_at HG3.out) Try.underlying29 rfl (by kernel_rfl)) rfl ?_
        refine ⟨N2, Ab, some ⟨q, 0, none⟩, some ⟨gs, 0, none⟩, Ar, cb, cn, cs, cr, top, rfl, HM2.out, ?_⟩
        exact nm_more (HDone.out _ (set8_grown _ _ _ _ _ _ _ _ _ _)) (by omega)
end Go.Proofs.Ytmdnkpiihhaoeaa
namespace Go.Proofs.Ytmdnkpiihhaoeaa
open Go Go.RowKit Fl

/-- What the walk keeps of the made network in its box, the tape beside it. -/
structure MadeN (w w2 : World) (gt T X top : Nat) (N : NetD) (Ab An As Ar : Option Addr) (cb cn cs cr : Nat) (wr : World) : Prop where
  nm : NM w2 w.heap.size gt T w2.heap.size (w2.heap.size + 3) top N Ab An As Ar cb cn cs cr wr
  box : wr.heap[X]? = some (.cells (netCells Ab An As Ar cb cn cs cr N) 29 (0, 0))
  lowX : w2.heap.size ≤ X
  below : Below w.heap.size w wr
  lowG : w.heap.size ≤ gt ∧ gt < w2.heap.size
section
variable {w w2 wr w' : World} {gt T T' X top : Nat} {N : NetD} {Ab An As Ar : Option Addr} {cb cn cs cr : Nat}
theorem MadeN.still (h : MadeN w w2 gt T X top N Ab An As Ar cb cn cs cr wr) (ht : TapeOk w' w.heap.size gt T') (hs : Still gt wr.heap.size wr w') : MadeN w w2 gt T' X top N Ab An As Ar cb cn cs cr w' := by
  obtain ⟨g1, g2⟩ := h.lowG
  have hz := h.nm.still.size
  have hX := block_lt h.box
  exact ⟨h.nm.low ht ⟨hs.os, hs.tape, hs.output, hs.size, fun k hk hg => hs.block k (by omega) hg⟩ hs.size (fun k h1 h2 => hs.block k h2 (by omega)), (hs.block X hX (by have := h.lowX; omega)).trans h.box, h.lowX, h.below.trans (hs.below h.below.size g1), h.lowG⟩
theorem MadeN.keep (h : MadeN w w2 gt T X top N Ab An As Ar cb cn cs cr wr) (hb : Below wr.heap.size wr w') : MadeN w w2 gt T X top N Ab An As Ar cb cn cs cr w' :=
  h.still (h.nm.tape.keep hb) (Still.of_below hb)
theorem MadeN.begin (hn : NM w2 w.heap.size gt T w2.heap.size (w2.heap.size + 3) top N Ab An As Ar cb cn cs cr wr) (hg : w.heap.size ≤ gt ∧ gt < w2.heap.size) (hb : Below w.heap.size w w2) : MadeN w w2 gt T wr.heap.size top N Ab An As Ar cb cn cs cr (wr.alloc (.cells (netCells Ab An As Ar cb cn cs cr N) 29)) := by
  have hB : Below wr.heap.size wr (wr.alloc (.cells (netCells Ab An As Ar cb cn cs cr N) 29)) := (Below.refl _ _).alloc (Nat.le_refl _) _
  have hs := Still.of_below (g := gt) hB
  have hz := hn.still.size
  have h2 : Below w.heap.size w wr := hb.trans (hn.still.below hb.size hg.1)
  exact ⟨hn.low (hn.tape.keep hB) ⟨hs.os, hs.tape, hs.output, hs.size, fun k hk hg => hs.block k (by omega) hg⟩ hs.size (fun k h1 h2 => hs.block k h2 (by omega)), heap_alloc_new _ _, hz, h2.trans (hB.mono h2.size), hg⟩
end
end Go.Proofs.Ytmdnkpiihhaoeaa

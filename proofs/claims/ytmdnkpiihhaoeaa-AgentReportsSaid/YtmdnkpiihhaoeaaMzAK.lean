/- Joined texts. -/
import Derived.Test.YtmdnkpiihhaoeaaMzAC
import Derived.Laws.IdiomStrings
import Derived.Test.YtmdnkpiihhaoeaaMzAJ
namespace Go.Proofs.Ytmdnkpiihhaoeaa
open Go.RowKit Fl
attribute [local go_sem] bget

theorem bapp1 (c : UInt8) (l : List UInt8) : (⟨#[c]⟩ : ByteArray) ++ ⟨l.toArray⟩ = ⟨(c :: l).toArray⟩ := by
  apply ByteArray.ext
  simp
theorem conv1 (n : Int) (c : UInt8) (h : n = c.toNat) (W : World) : Sem.run Try.prog (convert 108 9 (.slice (some ⟨W.heap.size, 0, none⟩) 1 1)) (W.alloc (.cells #[.int .u8 n] 5)) = .ok (.string ⟨#[c]⟩) (W.alloc (.cells #[.int .u8 n] 5)) := by
  subst h
  have := run_convert_bytes_back (P := Try.prog) (W.alloc (.cells #[.int .u8 (c.toNat : Int)] 5)) 108 9 5 ⟨W.heap.size, 0, none⟩ 1 [c] Try.underlying108 Try.underlying5 Try.underlying9 (fun j hj => by
    have hj' : j = 0 := by simpa using hj
    subst hj'
    simp [go_sem])
  simpa using this
theorem ofNat_digit (k : Nat) : (48 + (k : Int) % 10) = ((digC k).toNat : Int) := by
  rw [digC_nat]; omega

set_option maxHeartbeats 1000000 in
theorem digits_nn (n : Int) (w : World) (h0 : 0 ≤ n) (h1 : n ≤ 1000000) : Calls Try.prog 43 #[.int .i64 n] w fun e w' => e = .returned (.string ⟨(dec n).toArray⟩) ∧ Below w.heap.size w w' := by
  obtain ⟨m, rfl⟩ := Int.eq_ofNat_of_zero_le h0
  have HD := Lib.hid (show dec m = digs 20 m [] by unfold dec; rw [if_neg (by omega), Int.toNat_natCast])
  go_enter Try.func43, Try.ntmps43
  go_wp2
  go_loopw [0, 3] (fun i s wr => ∃ (f k : Nat) (acc : List UInt8), i = .int .i64 k ∧ s = .string ⟨acc.toArray⟩ ∧ k ≤ 1000000 ∧ Hid (k < 10 ^ f) ∧ Hid (acc.length ≤ 20 - f ∧ f ≤ 20 ∧ 1 ≤ f) ∧ Hid (digs 20 m [] = digs f k acc) ∧ Below w.heap.size w wr) (fun i _ _ => (intOf i).toNat)
  case atStart => exact ⟨20, m, [], rfl, rfl, by omega, Lib.hid (by omega), Lib.hid (by simp), Lib.hid rfl, Below.refl _ _⟩
  case round =>
    obtain ⟨f, k, acc, rfl, rfl, hk, HF, HL, HS, hb⟩ := hrel
    obtain ⟨g, rfl⟩ : ∃ g, f = g + 1 := ⟨f - 1, by have := HL.out; omega⟩
    have hz := hb.size
    have hal : acc.length ≤ 20 := by have := HL.out; omega
    have hcv := conv1 _ _ (ofNat_digit k)
    have hap := bapp1 (digC k) acc
    by_cases hq : k / 10 = 0
    · have HE := Lib.hid (show digs (g + 1) k acc = digC k :: acc by rw [digs, if_pos hq])
      have hlt : k < 10 := by omega
      clear hq
      go_wp2
      go_ret
      exact ⟨by rw [HD.out, HS.out, HE.out]; rfl, hb.alloc hz _⟩
    · have HE := Lib.hid (show digs (g + 1) k acc = digs g (k / 10) (digC k :: acc) by rw [digs, if_neg hq])
      have hge : 10 ≤ k := by omega
      clear hq
      go_wp2
      all_goals go_roundw
      case rel => exact ⟨g, k / 10, _, by go_num, rfl, by omega, Lib.hid (by have := HF.out; rw [Nat.pow_succ] at this; omega), Lib.hid (by
        have := HL.out
        have h2 := HF.out
        have : g ≠ 0 := by rintro rfl; simp at h2; omega
        simp; omega), Lib.hid (HS.out.trans HE.out), hb.alloc hz _⟩
      case measure => simp [intOf]; omega

set_option maxHeartbeats 1000000 in
theorem digits_c (n : Int) (w : World) (h0 : -1000000 ≤ n) (h1 : n ≤ 1000000) : Calls Try.prog 43 #[.int .i64 n] w fun e w' => e = .returned (.string ⟨(dec n).toArray⟩) ∧ Below w.heap.size w w' := by
  by_cases hn : 0 ≤ n
  · exact digits_nn n w hn h1
  · have C := Lib.hid (digits_nn (-n) w (by omega) (by omega))
    have HE := Lib.hid (show dec n = 45 :: dec (-n) by unfold dec; rw [if_pos (by omega), if_neg (by omega)])
    have hlen := dec_length (-n)
    have hap := bapp1 45 (dec (-n))
    have hn' : n < 0 := by omega
    clear hn
    go_enter Try.func43, Try.ntmps43
    go_wp2_with (go_at_call 43; refine (C.out).mono ?_; rintro e w1 ⟨rfl, hb⟩)
    go_ret
    exact ⟨by rw [HE.out]; rfl, by assumption⟩
end Go.Proofs.Ytmdnkpiihhaoeaa
namespace Go.Proofs.Ytmdnkpiihhaoeaa
open Go Go.RowKit Fl

theorem Try.infoBlockN : (Try.prog.info? 87).map (fun i => (i.zero, i.size, i.bytes)) = some (some (.agg #[.string ByteArray.empty, .int .i64 0, .int .i64 0]), 3, 32) := by kernel_rfl
theorem Try.infoSpurN : (Try.prog.info? 66).map (fun i => (i.zero, i.size, i.bytes)) = some (some (.agg #[.string ByteArray.empty, .bool false, .int .i64 0, .int .i64 0, .int .i64 0, .int .i64 0]), 6, 56) := by kernel_rfl
theorem ownN_to {w w' : World} {base n size : Nat} {e : TypeId} {v : Value} {xs : List Value} (h : w.ownsRow base e size v n xs) (hs : ∀ k, v.ownBlock = some k → k < w.heap.size → w'.heap[k]? = w.heap[k]?) : w'.ownsRow base e size v n xs := by
  obtain ⟨h1, hr⟩ := h
  refine ⟨h1, ?_⟩
  rcases hr with hr | ⟨g, cap, cur, hv, hgb, hh, hrest⟩
  · exact .inl hr
  · exact .inr ⟨g, cap, cur, hv, hgb, (hs g (by rw [hv]; rfl) (block_lt hh)).trans hh, hrest⟩
theorem ownN_type {w : World} {base n k size : Nat} {e : TypeId} {v : Value} {xs : List Value} (h : w.ownsRow base e size v n xs) (hk : v.ownBlock = some k) : (∃ cs, w.heap[k]? = some (.cells cs e (0, 0))) ∧ base ≤ k := by
  obtain ⟨_, hr⟩ := h
  rcases hr with ⟨rfl, _⟩ | ⟨g, cap, cur, rfl, hb, hh, _⟩
  · simp [Value.ownBlock] at hk
  · simp [Value.ownBlock] at hk
    subst hk
    exact ⟨⟨cur, hh⟩, hb⟩
/-- A row stays where another one of another type, or an old block, is written. -/
theorem ownN_apart {w w' : World} {base n size : Nat} {e : TypeId} {v : Value} {xs : List Value} {row : Option Nat} (h : w.ownsRow base e size v n xs) (hg : w.grownBy w' row) (hr : ∀ k, row = some k → k < base ∨ ∃ cs t, w.heap[k]? = some (.cells cs t (0, 0)) ∧ t ≠ e) : w'.ownsRow base e size v n xs := by
  refine ownN_to h fun k hk hlt => hg.block k hlt fun e1 => ?_
  obtain ⟨⟨cs, h1⟩, h2⟩ := ownN_type h hk
  rcases hr k e1.symm with h3 | ⟨cs2, t, h3, h4⟩
  · omega
  · rw [h1] at h3
    injection h3 with h3
    injection h3 with _ h5
    exact h4 h5.symm
theorem rowsN_apart {w w' : World} {base : Nat} {v : Value} {g : GraphD} {row : Option Nat} (h : RowsOwn w base v g) (hg : w.grownBy w' row) (hr : ∀ k, row = some k → k < base ∨ ∃ cs t, w.heap[k]? = some (.cells cs t (0, 0)) ∧ t ≠ 25 ∧ t ≠ 3) : RowsOwn w' base v g := by
  obtain ⟨vs, h1, h2, h3⟩ := h
  have key : ∀ k, row = some k → k < base ∨ ∃ cs t, w.heap[k]? = some (.cells cs t (0, 0)) ∧ t ≠ 25 := fun k hk => by
    rcases hr k hk with h | ⟨cs, t, a, b, _⟩
    · exact .inl h
    · exact .inr ⟨cs, t, a, b⟩
  exact ⟨vs, h1, ownN_apart h2 hg key, fun k u r hk hr' => ownN_apart (h3 k u r hk hr') hg fun j hj => by
    rcases hr j hj with h | ⟨cs, t, a, _, b⟩
    · exact .inl h
    · exact .inr ⟨cs, t, a, b⟩⟩
/-- But for block gt, what lay below G0 is as it was: Still. The box lies in block nb. -/
structure NS (w : World) (B gt T G0 nb base : Nat) (N : NetD) (Ab An As Ar : Option Addr) (cb cn cs cr : Nat) (wr : World) : Prop where
  box : wr.heap[nb]? = some (.cells (netCells Ab An As Ar cb cn cs cr N) 29 (0, 0))
  res : ∃ cz, wr.heap[G0]? = some (.cells cz 29 (0, 0)) ∧ cz.size = 8
  tape : TapeOk wr B gt T
  blocks : wr.ownsRow base 87 3 (.slice Ab N.blocks.length cb) N.blocks.length (blockCells N.blocks)
  next : RowsOwn wr base (.slice An N.next.length cn) N.next
  spurs : wr.ownsRow base 66 6 (.slice As N.spurs.length cs) N.spurs.length (spurCells N.spurs)
  robots : wr.ownsRow base 3 1 (.slice Ar N.robots.length cr) N.robots.length (N.robots.map Iv)
  still : Still gt G0 w wr
  size : base ≤ wr.heap.size
  ord : gt < G0 ∧ G0 < nb ∧ nb < base ∧ B ≤ gt
section
variable {w wr w' : World} {B gt T G0 nb base : Nat} {N : NetD} {Ab An As Ar : Option Addr} {cb cn cs cr : Nat}
/-- Behind the tape's next number. -/
theorem NS.next_ (h : NS w B gt T G0 nb base N Ab An As Ar cb cn cs cr wr) (ht : TapeOk w' B gt (T + 1)) (hg : wr.grownBy w' (some gt)) : NS w B gt (T + 1) G0 nb base N Ab An As Ar cb cn cs cr w' := by
  obtain ⟨o1, o2, o3, o4⟩ := h.ord
  have hr : ∀ k, some gt = some k → k < base := fun k hk => by injection hk with hk; omega
  obtain ⟨cz, z1, z2⟩ := h.res
  have hs := h.size
  exact ⟨(hg.block nb (by omega) (fun e => by injection e with e; omega)).trans h.box, ⟨cz, (hg.block G0 (by omega) (fun e => by injection e with e; omega)).trans z1, z2⟩, ht, ownN_apart h.blocks hg fun k hk => .inl (hr k hk), rowsN_apart h.next hg fun k hk => .inl (hr k hk), ownN_apart h.spurs hg fun k hk => .inl (hr k hk), ownN_apart h.robots hg fun k hk => .inl (hr k hk),
    h.still.trans (Still.of_grown hg (by omega)), Nat.le_trans h.size hg.size, h.ord⟩
/-- Behind what only makes memory. -/
theorem NS.keep (h : NS w B gt T G0 nb base N Ab An As Ar cb cn cs cr wr) (hb : Below wr.heap.size wr w') : NS w B gt T G0 nb base N Ab An As Ar cb cn cs cr w' := by
  obtain ⟨o1, o2, o3, o4⟩ := h.ord
  obtain ⟨cz, z1, z2⟩ := h.res
  have hs := h.size
  exact ⟨(hb.block nb (by omega)).trans h.box, ⟨cz, (hb.block G0 (by omega)).trans z1, z2⟩, h.tape.keep hb, ownN_to h.blocks fun k _ hk => hb.block k hk, h.next.keep hb, ownN_to h.spurs fun k _ hk => hb.block k hk, ownN_to h.robots fun k _ hk => hb.block k hk, h.still.trans (Still.of_below (hb.mono (by omega))), Nat.le_trans h.size hb.size, h.ord⟩
theorem NS.alloc (h : NS w B gt T G0 nb base N Ab An As Ar cb cn cs cr wr) (o : Obj) : NS w B gt T G0 nb base N Ab An As Ar cb cn cs cr (wr.alloc o) := h.keep ((Below.refl _ _).alloc (Nat.le_refl _) o)
theorem NS.drew (h : NS w B gt T G0 nb base N Ab An As Ar cb cn cs cr wr) : NS w B gt T G0 nb base N Ab An As Ar cb cn cs cr wr.drew := h.keep (Below.refl _ _).drew
theorem NS.c (h : NS w B gt T G0 nb base N Ab An As Ar cb cn cs cr wr) : wr.cell? ⟨nb, 0, none⟩ = some (.slice Ab N.blocks.length cb) ∧ wr.cell? ⟨nb, 1, none⟩ = some (.slice An N.next.length cn) ∧ wr.cell? ⟨nb, 2, none⟩ = some (.slice As N.spurs.length cs) ∧ wr.cell? ⟨nb, 3, none⟩ = some (.slice Ar N.robots.length cr) := by
  have := boxAt_of h.box
  exact ⟨this.c0, this.c1, this.c2, this.c3⟩
theorem NS.f (h : NS w B gt T G0 nb base N Ab An As Ar cb cn cs cr wr) (i : Nat) : wr.frozen? ⟨nb, i, none⟩ = false := by
  have := h.box
  simp [World.frozen?, this]
/-- A block appended: the row first, then the box. -/
theorem NS.pushBlock {gg cap : Nat} {x : BlockD} {o : Obj} (h : NS w B gt T G0 nb base N Ab An As Ar cb cn cs cr wr) (hg : (wr.alloc o).grownBy w' (Value.slice Ab N.blocks.length cb).ownBlock)
    (ho : w'.ownsRow base 87 3 (.slice (some ⟨gg, 0, none⟩) (N.blocks.length + 1) cap) (N.blocks.length + 1) (blockCells N.blocks ++ [Sv x.name, Iv x.x, Iv x.y])) :
    NS w B gt T G0 nb base { N with blocks := N.blocks ++ [x] } (some ⟨gg, 0, none⟩) An As Ar cap cn cs cr (w'.setCell ⟨nb, 0, none⟩ (.slice (some ⟨gg, 0, none⟩) (N.blocks.length + 1) cap)) := by
  have h1 := h.alloc o
  obtain ⟨o1, o2, o3, o4⟩ := h.ord
  have hsz := h1.size
  have hrow : ∀ k, (Value.slice Ab N.blocks.length cb).ownBlock = some k → (∃ cs, (wr.alloc o).heap[k]? = some (.cells cs 87 (0, 0))) ∧ base ≤ k := fun k hk => ownN_type h1.blocks hk
  have ne : ∀ k, k < base → some k ≠ (Value.slice Ab N.blocks.length cb).ownBlock := fun k hk e => by have := (hrow k e.symm).2; omega
  obtain ⟨cz, z1, z2⟩ := h1.res
  have other : ∀ {n size : Nat} {e : TypeId} {v : Value} {xs : List Value}, 87 ≠ e → (wr.alloc o).ownsRow base e size v n xs → (w'.setCell ⟨nb, 0, none⟩ (.slice (some ⟨gg, 0, none⟩) (N.blocks.length + 1) cap)).ownsRow base e size v n xs := fun hne hh => by
    have h2 := ownN_apart hh hg fun k hk => by
      obtain ⟨⟨cs, a⟩, _⟩ := hrow k hk
      exact .inr ⟨cs, _, a, hne⟩
    exact ownN_to h2 fun k hk _ => Below.heap_setCell _ _ _ _ (by have := (ownN_type h2 hk).2; show k ≠ nb; omega)
  have hsetb : ∀ k, k ≠ nb → (w'.setCell ⟨nb, 0, none⟩ (.slice (some ⟨gg, 0, none⟩) (N.blocks.length + 1) cap)).heap[k]? = w'.heap[k]? := fun k hk => Below.heap_setCell _ _ _ _ hk
  have hbox : w'.heap[nb]? = some (.cells (netCells Ab An As Ar cb cn cs cr N) 29 (0, 0)) := (hg.block nb (by omega) (ne nb (by omega))).trans h1.box
  have hlen : (N.blocks ++ [x]).length = N.blocks.length + 1 := by simp
  refine ⟨?_, ⟨cz, (hsetb G0 (by omega)).trans ((hg.block G0 (by omega) (ne G0 (by omega))).trans z1), z2⟩, ?_, ?_, ?_, other (by decide) h1.spurs, other (by decide) h1.robots, ?_, ?_, h.ord⟩
  · rw [setCell_eq_setRow w' nb 0 _ _ (0, 0) _ hbox, setRow_heap w' nb _ _ _ _ hbox]
    show _ = some (Obj.cells #[.slice (some ⟨gg, 0, none⟩) (N.blocks ++ [x]).length cap, .slice An N.next.length cn, .slice As N.spurs.length cs, .slice Ar N.robots.length cr, Iv N.queue, Iv N.aging, Iv N.detours, Iv N.patience] 29 (0, 0))
    rw [hlen]
    rfl
  · have h2 : TapeOk w' B gt T := h1.tape.grown hg (fun e => ne gt (by omega) e.symm) (fun k hk => by have := (hrow k hk).2; omega)
    refine h2.grown (w' := w'.setCell ⟨nb, 0, none⟩ (.slice (some ⟨gg, 0, none⟩) (N.blocks.length + 1) cap)) (row := some nb) ⟨rfl, rfl, rfl, by simp [World.setCell], fun k _ hne => hsetb k (fun e => hne (by rw [e]))⟩ (fun e => by injection e with e; omega) (fun k hk => by injection hk with hk; omega)
  · have h2 : w'.ownsRow base 87 3 (.slice (some ⟨gg, 0, none⟩) (N.blocks.length + 1) cap) (N.blocks.length + 1) (blockCells (N.blocks ++ [x])) := by
      rw [blockCells_append]; exact ho
    rw [← hlen] at h2 hsetb ⊢
    exact ownN_to h2 fun k hk _ => hsetb k (by have := (ownN_type h2 hk).2; omega)
  · obtain ⟨vs, a1, a2, a3⟩ := h1.next
    exact ⟨vs, a1, other (by decide) a2, fun k u r hk hr => other (by decide) (a3 k u r hk hr)⟩
  · refine h1.still.trans ⟨hg.os, hg.tape, hg.output, by have := hg.size; simp [World.setCell] at *; omega, fun k hk _ => (hsetb k (by omega)).trans (hg.block k (by omega) (ne k (by omega)))⟩
  · have := hg.size
    simp [World.setCell] at *; omega
/-- A spur appended: the row first, then the box. -/
theorem NS.pushSpur {gg cap : Nat} {x : SpurD} {o : Obj} (h : NS w B gt T G0 nb base N Ab An As Ar cb cn cs cr wr) (hg : (wr.alloc o).grownBy w' (Value.slice As N.spurs.length cs).ownBlock)
    (ho : w'.ownsRow base 66 6 (.slice (some ⟨gg, 0, none⟩) (N.spurs.length + 1) cap) (N.spurs.length + 1) (spurCells N.spurs ++ [Sv x.name, Bo x.depot, Iv x.inn, Iv x.out, Iv x.slots, Iv x.base])) :
    NS w B gt T G0 nb base { N with spurs := N.spurs ++ [x] } Ab An (some ⟨gg, 0, none⟩) Ar cb cn cap cr (w'.setCell ⟨nb, 2, none⟩ (.slice (some ⟨gg, 0, none⟩) (N.spurs.length + 1) cap)) := by
  have h1 := h.alloc o
  obtain ⟨o1, o2, o3, o4⟩ := h.ord
  have hsz := h1.size
  have hrow : ∀ k, (Value.slice As N.spurs.length cs).ownBlock = some k → (∃ cs, (wr.alloc o).heap[k]? = some (.cells cs 66 (0, 0))) ∧ base ≤ k := fun k hk => ownN_type h1.spurs hk
  have ne : ∀ k, k < base → some k ≠ (Value.slice As N.spurs.length cs).ownBlock := fun k hk e => by have := (hrow k e.symm).2; omega
  obtain ⟨cz, z1, z2⟩ := h1.res
  have other : ∀ {n size : Nat} {e : TypeId} {v : Value} {xs : List Value}, 66 ≠ e → (wr.alloc o).ownsRow base e size v n xs → (w'.setCell ⟨nb, 2, none⟩ (.slice (some ⟨gg, 0, none⟩) (N.spurs.length + 1) cap)).ownsRow base e size v n xs := fun hne hh => by
    have h2 := ownN_apart hh hg fun k hk => by
      obtain ⟨⟨cs, a⟩, _⟩ := hrow k hk
      exact .inr ⟨cs, _, a, hne⟩
    exact ownN_to h2 fun k hk _ => Below.heap_setCell _ _ _ _ (by have := (ownN_type h2 hk).2; show k ≠ nb; omega)
  have hsetb : ∀ k, k ≠ nb → (w'.setCell ⟨nb, 2, none⟩ (.slice (some ⟨gg, 0, none⟩) (N.spurs.length + 1) cap)).heap[k]? = w'.heap[k]? := fun k hk => Below.heap_setCell _ _ _ _ hk
  have hbox : w'.heap[nb]? = some (.cells (netCells Ab An As Ar cb cn cs cr N) 29 (0, 0)) := (hg.block nb (by omega) (ne nb (by omega))).trans h1.box
  have hlen : (N.spurs ++ [x]).length = N.spurs.length + 1 := by simp
  refine ⟨?_, ⟨cz, (hsetb G0 (by omega)).trans ((hg.block G0 (by omega) (ne G0 (by omega))).trans z1), z2⟩, ?_, other (by decide) h1.blocks, ?_, ?_, other (by decide) h1.robots, ?_, ?_, h.ord⟩
  · rw [setCell_eq_setRow w' nb 2 _ _ (0, 0) _ hbox, setRow_heap w' nb _ _ _ _ hbox]
    show _ = some (Obj.cells #[.slice Ab N.blocks.length cb, .slice An N.next.length cn, .slice (some ⟨gg, 0, none⟩) (N.spurs ++ [x]).length cap, .slice Ar N.robots.length cr, Iv N.queue, Iv N.aging, Iv N.detours, Iv N.patience] 29 (0, 0))
    rw [hlen]
    rfl
  · have h2 : TapeOk w' B gt T := h1.tape.grown hg (fun e => ne gt (by omega) e.symm) (fun k hk => by have := (hrow k hk).2; omega)
    refine h2.grown (w' := w'.setCell ⟨nb, 2, none⟩ (.slice (some ⟨gg, 0, none⟩) (N.spurs.length + 1) cap)) (row := some nb) ⟨rfl, rfl, rfl, by simp [World.setCell], fun k _ hne => hsetb k (fun e => hne (by rw [e]))⟩ (fun e => by injection e with e; omega) (fun k hk => by injection hk with hk; omega)
  · obtain ⟨vs, a1, a2, a3⟩ := h1.next
    exact ⟨vs, a1, other (by decide) a2, fun k u r hk hr => other (by decide) (a3 k u r hk hr)⟩
  · have h2 : w'.ownsRow base 66 6 (.slice (some ⟨gg, 0, none⟩) (N.spurs.length + 1) cap) (N.spurs.length + 1) (spurCells (N.spurs ++ [x])) := by
      rw [spurCells_append]; exact ho
    rw [← hlen] at h2 hsetb ⊢
    exact ownN_to h2 fun k hk _ => hsetb k (by have := (ownN_type h2 hk).2; omega)
  · refine h1.still.trans ⟨hg.os, hg.tape, hg.output, by have := hg.size; simp [World.setCell] at *; omega, fun k hk _ => (hsetb k (by omega)).trans (hg.block k (by omega) (ne k (by omega)))⟩
  · have := hg.size
    simp [World.setCell] at *; omega
/-- An empty row appended: the row first, then the box. -/
theorem NS.pushNext {gg cap : Nat} {o : Obj} {vs : List Value} (h : NS w B gt T G0 nb base N Ab An As Ar cb cn cs cr wr) (hv1 : vs.length = N.next.length) (hv2 : wr.ownsRow base 25 1 (.slice An N.next.length cn) N.next.length vs) (hv3 : ∀ (k : Nat) (u : Value) (r : List Int), vs[k]? = some u → N.next[k]? = some r → wr.ownsRow base 3 1 u r.length (r.map Iv)) (hg : (wr.alloc o).grownBy w' (Value.slice An N.next.length cn).ownBlock)
    (ho : w'.ownsRow base 25 1 (.slice (some ⟨gg, 0, none⟩) (N.next.length + 1) cap) (N.next.length + 1) (vs ++ [.slice none 0 0])) :
    NS w B gt T G0 nb base { N with next := N.next ++ [[]] } Ab (some ⟨gg, 0, none⟩) As Ar cb cap cs cr (w'.setCell ⟨nb, 1, none⟩ (.slice (some ⟨gg, 0, none⟩) (N.next.length + 1) cap)) := by
  have h1 := h.alloc o
  obtain ⟨o1, o2, o3, o4⟩ := h.ord
  have hsz := h1.size
  have hrow : ∀ k, (Value.slice An N.next.length cn).ownBlock = some k → (∃ cs, (wr.alloc o).heap[k]? = some (.cells cs 25 (0, 0))) ∧ base ≤ k := fun k hk => ownN_type (hv2.alloc o) hk
  have ne : ∀ k, k < base → some k ≠ (Value.slice An N.next.length cn).ownBlock := fun k hk e => by have := (hrow k e.symm).2; omega
  obtain ⟨cz, z1, z2⟩ := h1.res
  have other : ∀ {n size : Nat} {e : TypeId} {v : Value} {xs : List Value}, 25 ≠ e → (wr.alloc o).ownsRow base e size v n xs → (w'.setCell ⟨nb, 1, none⟩ (.slice (some ⟨gg, 0, none⟩) (N.next.length + 1) cap)).ownsRow base e size v n xs := fun hne hh => by
    have h2 := ownN_apart hh hg fun k hk => by
      obtain ⟨⟨cs, a⟩, _⟩ := hrow k hk
      exact .inr ⟨cs, _, a, hne⟩
    exact ownN_to h2 fun k hk _ => Below.heap_setCell _ _ _ _ (by have := (ownN_type h2 hk).2; show k ≠ nb; omega)
  have hsetb : ∀ k, k ≠ nb → (w'.setCell ⟨nb, 1, none⟩ (.slice (some ⟨gg, 0, none⟩) (N.next.length + 1) cap)).heap[k]? = w'.heap[k]? := fun k hk => Below.heap_setCell _ _ _ _ hk
  have hbox : w'.heap[nb]? = some (.cells (netCells Ab An As Ar cb cn cs cr N) 29 (0, 0)) := (hg.block nb (by omega) (ne nb (by omega))).trans h1.box
  have hlen : (N.next ++ [[]]).length = N.next.length + 1 := by simp
  refine ⟨?_, ⟨cz, (hsetb G0 (by omega)).trans ((hg.block G0 (by omega) (ne G0 (by omega))).trans z1), z2⟩, ?_, other (by decide) h1.blocks, ?_, other (by decide) h1.spurs, other (by decide) h1.robots, ?_, ?_, h.ord⟩
  · rw [setCell_eq_setRow w' nb 1 _ _ (0, 0) _ hbox, setRow_heap w' nb _ _ _ _ hbox]
    show _ = some (Obj.cells #[.slice Ab N.blocks.length cb, .slice (some ⟨gg, 0, none⟩) (N.next ++ [[]]).length cap, .slice As N.spurs.length cs, .slice Ar N.robots.length cr, Iv N.queue, Iv N.aging, Iv N.detours, Iv N.patience] 29 (0, 0))
    rw [hlen]
    rfl
  · have h2 : TapeOk w' B gt T := h1.tape.grown hg (fun e => ne gt (by omega) e.symm) (fun k hk => by have := (hrow k hk).2; omega)
    refine h2.grown (w' := w'.setCell ⟨nb, 1, none⟩ (.slice (some ⟨gg, 0, none⟩) (N.next.length + 1) cap)) (row := some nb) ⟨rfl, rfl, rfl, by simp [World.setCell], fun k _ hne => hsetb k (fun e => hne (by rw [e]))⟩ (fun e => by injection e with e; omega) (fun k hk => by injection hk with hk; omega)
  · have h2 : w'.ownsRow base 25 1 (.slice (some ⟨gg, 0, none⟩) (N.next.length + 1) cap) (N.next.length + 1) (vs ++ [.slice none 0 0]) := ho
    refine ⟨vs ++ [.slice none 0 0], by simp [hv1], ?_, fun k u r hk hr => ?_⟩
    · rw [← hlen] at h2 hsetb ⊢
      exact ownN_to h2 fun k hk _ => hsetb k (by have := (ownN_type h2 hk).2; omega)
    · rcases Nat.lt_or_ge k N.next.length with hlt | hge
      · rw [List.getElem?_append_left (by omega)] at hk hr
        exact other (by decide) ((hv3 k u r hk hr).alloc o)
      · rw [List.getElem?_append_right (by omega)] at hk hr
        rcases e : k - N.next.length with _ | m
        · rw [hv1, e] at hk
          rw [e] at hr
          simp at hk hr
          subst hk hr
          exact World.ownsRow_nil _ _ _ _
        · rw [e] at hr
          simp at hr
  · refine h1.still.trans ⟨hg.os, hg.tape, hg.output, by have := hg.size; simp [World.setCell] at *; omega, fun k hk _ => (hsetb k (by omega)).trans (hg.block k (by omega) (ne k (by omega)))⟩
  · have := hg.size
    simp [World.setCell] at *; omega
/-- The box's cells behind an append to a row of the call's own. -/
theorem NS.behind {v : Value} {o : Obj} (h : NS w B gt T G0 nb base N Ab An As Ar cb cn cs cr wr) (hv : ∀ k, v.ownBlock = some k → base ≤ k) (hg : (wr.alloc o).grownBy w' v.ownBlock) (i : Nat) : w'.cell? ⟨nb, i, none⟩ = wr.cell? ⟨nb, i, none⟩ ∧ w'.frozen? ⟨nb, i, none⟩ = false := by
  obtain ⟨o1, o2, o3, o4⟩ := h.ord
  have h1 := h.alloc o
  have hsz := h.size
  have e1 : w'.heap[nb]? = wr.heap[nb]? := (hg.block nb (by simp; omega) (fun e => by have := hv nb e.symm; omega)).trans (Below.heap_alloc _ _ _ (by omega))
  refine ⟨World.cell?_of_block (w := wr) (a := ⟨nb, i, none⟩) e1, ?_⟩
  have := h.f i
  simp only [World.frozen?, e1] at this ⊢
  exact this
/-- Behind ring: the rows' elements are others. -/
theorem NS.ring {q capn T' : Nat} {g : GraphD} (h : NS w B gt T G0 nb base N Ab (some ⟨q, 0, none⟩) As Ar cb capn cs cr wr) (hg : g.length = N.next.length) (hr : RowsOwn w' base (.slice (some ⟨q, 0, none⟩) N.next.length capn) g) (ht : TapeOk w' B gt T') (hf : Fro gt q wr w') : NS w B gt T' G0 nb base { N with next := g } Ab (some ⟨q, 0, none⟩) As Ar cb capn cs cr w' := by
  obtain ⟨o1, o2, o3, o4⟩ := h.ord
  obtain ⟨vs, a1, a2, _⟩ := h.next
  obtain ⟨⟨cq, hq⟩, hqb⟩ := ownN_type a2 (k := q) rfl
  have hs := h.size
  obtain ⟨cz, z1, z2⟩ := h.res
  have other : ∀ {n size : Nat} {e : TypeId} {v : Value} {xs : List Value}, 25 ≠ e → wr.ownsRow base e size v n xs → w'.ownsRow base e size v n xs := fun hne hh => ownN_to hh fun k hk hlt => by
    obtain ⟨⟨ck, h1⟩, h2⟩ := ownN_type hh hk
    refine hf.block k hlt (by omega) fun e => ?_
    rw [e, hq] at h1
    injection h1 with h1
    injection h1 with _ h3
    exact hne h3
  refine ⟨?_, ⟨cz, (hf.block G0 (by omega) (by omega) (by omega)).trans z1, z2⟩, ht, other (by decide) h.blocks, by simp only; rw [hg]; exact hr, other (by decide) h.spurs, other (by decide) h.robots, h.still.trans ⟨hf.os, hf.tape, hf.output, hf.size, fun k hk hg' => hf.block k (by omega) hg' (by omega)⟩, Nat.le_trans h.size hf.size, h.ord⟩
  rw [hf.block nb (by omega) (by omega) (by omega), h.box]
  show some (Obj.cells #[.slice Ab N.blocks.length cb, .slice (some ⟨q, 0, none⟩) N.next.length capn, .slice As N.spurs.length cs, .slice Ar N.robots.length cr, Iv N.queue, Iv N.aging, Iv N.detours, Iv N.patience] 29 (0, 0)) = some (Obj.cells #[.slice Ab N.blocks.length cb, .slice (some ⟨q, 0, none⟩) g.length capn, .slice As N.spurs.length cs, .slice Ar N.robots.length cr, Iv N.queue, Iv N.aging, Iv N.detours, Iv N.patience] 29 (0, 0))
  rw [hg]
theorem NS.head (h : NS w B gt T G0 nb base N Ab An As Ar cb cn cs cr wr) (h0 : 0 < N.next.length) : ∃ q, An = some ⟨q, 0, none⟩ := by
  obtain ⟨vs, _, a2, _⟩ := h.next
  obtain ⟨q, cap, e, _⟩ := own_at a2 h0
  injection e with e1 _ _
  exact ⟨q, e1⟩
theorem NS.more {T' : Nat} (h : NS w B gt T G0 nb base N Ab An As Ar cb cn cs cr wr) (hT : T ≤ T') : NS w B gt T' G0 nb base N Ab An As Ar cb cn cs cr wr :=
  ⟨h.box, h.res, h.tape.more hT, h.blocks, h.next, h.spurs, h.robots, h.still, h.size, h.ord⟩
end
end Go.Proofs.Ytmdnkpiihhaoeaa
namespace Go.Proofs.Ytmdnkpiihhaoeaa
open Go Go.RowKit Fl

abbrev zeroSpur : Obj := .cells #[.string ByteArray.empty, .bool false, .int .i64 0, .int .i64 0, .int .i64 0, .int .i64 0] 66
/-- Block Y, at or behind s0, is a spur's, with these cells. -/
def SpurBlk (w : World) (s0 Y : Nat) (cs : Array Value) : Prop := w.heap[Y]? = some (.cells cs 66 (0, 0)) ∧ s0 ≤ Y
theorem SpurBlk.new {w : World} {s0 : Nat} (h : s0 ≤ w.heap.size) : SpurBlk (w.alloc zeroSpur) s0 w.heap.size #[.string ByteArray.empty, .bool false, .int .i64 0, .int .i64 0, .int .i64 0, .int .i64 0] := ⟨heap_alloc_new w zeroSpur, h⟩
theorem SpurBlk.grown {w w' : World} {s0 Y gt : Nat} {cs : Array Value} (h : SpurBlk w s0 Y cs) (hg : w.grownBy w' (some gt)) (hs : gt < s0) : SpurBlk w' s0 Y cs :=
  ⟨(hg.block Y (block_lt h.1) (fun e => by injection e with e; have := h.2; omega)).trans h.1, h.2⟩
theorem SpurBlk.keep {w w' : World} {s0 Y : Nat} {cs : Array Value} (h : SpurBlk w s0 Y cs) (hb : Below w.heap.size w w') : SpurBlk w' s0 Y cs := ⟨(hb.block Y (block_lt h.1)).trans h.1, h.2⟩
theorem SpurBlk.cells {w : World} {s0 Y : Nat} {a b c d e f : Value} (h : SpurBlk w s0 Y #[a, b, c, d, e, f]) : w.cell? ⟨Y, 0, none⟩ = some a ∧ w.cell? ⟨Y, 1, none⟩ = some b ∧ w.cell? ⟨Y, 2, none⟩ = some c ∧ w.cell? ⟨Y, 3, none⟩ = some d ∧ w.cell? ⟨Y, 4, none⟩ = some e ∧ w.cell? ⟨Y, 5, none⟩ = some f :=
  ⟨by rw [cell_of_row w Y 0 _ _ _ h.1]; rfl, by rw [cell_of_row w Y 1 _ _ _ h.1]; rfl, by rw [cell_of_row w Y 2 _ _ _ h.1]; rfl, by rw [cell_of_row w Y 3 _ _ _ h.1]; rfl, by rw [cell_of_row w Y 4 _ _ _ h.1]; rfl, by rw [cell_of_row w Y 5 _ _ _ h.1]; rfl⟩
theorem SpurBlk.froz {w : World} {s0 Y : Nat} {cs : Array Value} (h : SpurBlk w s0 Y cs) (i : Nat) : w.frozen? ⟨Y, i, none⟩ = false := by simp [World.frozen?, h.1]
theorem set6_at {W : World} {g : Nat} {a0 a1 a2 a3 a4 a5 v0 v1 v2 v3 v4 v5 : Value} {t : TypeId} (h : W.heap[g]? = some (.cells #[a0, a1, a2, a3, a4, a5] t (0, 0))) : ((((((W.setCell ⟨g, 0, none⟩ v0).setCell ⟨g, 1, none⟩ v1).setCell ⟨g, 2, none⟩ v2).setCell ⟨g, 3, none⟩ v3).setCell ⟨g, 4, none⟩ v4).setCell ⟨g, 5, none⟩ v5).heap[g]? = some (.cells #[v0, v1, v2, v3, v4, v5] t (0, 0)) :=
  set1_at (set1_at (set1_at (set1_at (set1_at (set1_at h)))))
theorem put_grown (w : World) (g i : Nat) (v : Value) : w.grownBy (w.setCell ⟨g, i, none⟩ v) (some g) :=
  ⟨rfl, rfl, rfl, by simp [World.setCell], fun k _ hne => Below.heap_setCell _ _ _ _ (fun e => hne (by rw [e]))⟩
theorem grown_trans {a b c : World} {row : Option Nat} (h : a.grownBy b row) (k : b.grownBy c row) : a.grownBy c row :=
  ⟨k.os.trans h.os, k.tape.trans h.tape, k.output.trans h.output, Nat.le_trans h.size k.size, fun i hi hne => (k.block i (Nat.lt_of_lt_of_le hi h.size) hne).trans (h.block i hi hne)⟩
theorem set6_grown (W : World) (g : Nat) (v0 v1 v2 v3 v4 v5 : Value) : W.grownBy ((((((W.setCell ⟨g, 0, none⟩ v0).setCell ⟨g, 1, none⟩ v1).setCell ⟨g, 2, none⟩ v2).setCell ⟨g, 3, none⟩ v3).setCell ⟨g, 4, none⟩ v4).setCell ⟨g, 5, none⟩ v5) (some g) :=
  grown_trans (grown_trans (grown_trans (grown_trans (grown_trans (put_grown _ _ _ _) (put_grown _ _ _ _)) (put_grown _ _ _ _)) (put_grown _ _ _ _)) (put_grown _ _ _ _)) (put_grown _ _ _ _)
theorem set6_cell {W : World} {Y nb i : Nat} {u v0 v1 v2 v3 v4 v5 : Value} (h : W.cell? ⟨nb, i, none⟩ = some u) (hne : nb ≠ Y) : ((((((W.setCell ⟨Y, 0, none⟩ v0).setCell ⟨Y, 1, none⟩ v1).setCell ⟨Y, 2, none⟩ v2).setCell ⟨Y, 3, none⟩ v3).setCell ⟨Y, 4, none⟩ v4).setCell ⟨Y, 5, none⟩ v5).cell? ⟨nb, i, none⟩ = some u := by
  have hg := set6_grown W Y v0 v1 v2 v3 v4 v5
  exact (World.cell?_of_block (a := ⟨nb, i, none⟩) (hg.block nb (World.block_lt_of_cell? _ _ h) (fun e => hne (by injection e)))).trans h
section
variable {w wr w' : World} {B gt T G0 nb base : Nat} {N : NetD} {Ab An As Ar : Option Addr} {cb cn cs cr : Nat}
/-- A spur's block that is no list's is written. -/
theorem NS.spurPut {Y s0 : Nat} {cz : Array Value} (h : NS w B gt T G0 nb base N Ab An As Ar cb cn cs cr wr) (hY : SpurBlk wr s0 Y cz) (hb : base ≤ s0) (hne : ∀ k, (Value.slice As N.spurs.length cs).ownBlock = some k → k < s0) (hg : wr.grownBy w' (some Y)) : NS w B gt T G0 nb base N Ab An As Ar cb cn cs cr w' := by
  obtain ⟨o1, o2, o3, o4⟩ := h.ord
  obtain ⟨y1, y2⟩ := hY
  have hs := h.size
  obtain ⟨cy, z1, z2⟩ := h.res
  have hr : ∀ {e : TypeId}, 66 ≠ e → ∀ k, some Y = some k → k < base ∨ ∃ cs t, wr.heap[k]? = some (.cells cs t (0, 0)) ∧ t ≠ e := fun hne k hk => by
    injection hk with hk
    subst hk
    exact .inr ⟨_, _, y1, hne⟩
  refine ⟨(hg.block nb (by omega) (fun e => by injection e with e; omega)).trans h.box, ⟨cy, (hg.block G0 (by omega) (fun e => by injection e with e; omega)).trans z1, z2⟩, h.tape.grown hg (fun e => by injection e with e; omega) (fun k hk => by injection hk with hk; omega), ownN_apart h.blocks hg (hr (by decide)), rowsN_apart h.next hg (fun k hk => by injection hk with hk; subst hk; exact .inr ⟨_, _, y1, by decide, by decide⟩), ?_, ownN_apart h.robots hg (hr (by decide)), h.still.trans ⟨hg.os, hg.tape, hg.output, hg.size, fun k hk _ => hg.block k (by omega) (fun e => by injection e with e; omega)⟩, Nat.le_trans h.size hg.size, h.ord⟩
  exact ownN_to h.spurs fun k hk hlt => hg.block k hlt (fun e => by injection e with e; have := hne k hk; omega)
theorem NS.spurLow (h : NS w B gt T G0 nb base N Ab An As Ar cb cn cs cr wr) : ∀ k, (Value.slice As N.spurs.length cs).ownBlock = some k → k < wr.heap.size := fun k hk => by
  obtain ⟨⟨cs, h1⟩, _⟩ := ownN_type h.spurs hk
  exact block_lt h1
/-- The box's numbers are set. -/
theorem NS.config {q a d p : Int} (h : NS w B gt T G0 nb base N Ab An As Ar cb cn cs cr wr) : NS w B gt T G0 nb base { N with queue := q, aging := a, detours := d, patience := p } Ab An As Ar cb cn cs cr ((((wr.setCell ⟨nb, 4, none⟩ (Iv q)).setCell ⟨nb, 5, none⟩ (Iv a)).setCell ⟨nb, 6, none⟩ (Iv d)).setCell ⟨nb, 7, none⟩ (Iv p)) := by
  obtain ⟨o1, o2, o3, o4⟩ := h.ord
  have hs := h.size
  obtain ⟨cy, z1, z2⟩ := h.res
  have hg : wr.grownBy ((((wr.setCell ⟨nb, 4, none⟩ (Iv q)).setCell ⟨nb, 5, none⟩ (Iv a)).setCell ⟨nb, 6, none⟩ (Iv d)).setCell ⟨nb, 7, none⟩ (Iv p)) (some nb) := grown_trans (grown_trans (grown_trans (put_grown _ _ _ _) (put_grown _ _ _ _)) (put_grown _ _ _ _)) (put_grown _ _ _ _)
  have hr : ∀ k, some nb = some k → k < base := fun k hk => by injection hk with hk; omega
  have hne : ∀ k, base ≤ k → some k ≠ some nb := fun k hk e => by injection e with e; omega
  have hbx : ((((wr.setCell ⟨nb, 4, none⟩ (Iv q)).setCell ⟨nb, 5, none⟩ (Iv a)).setCell ⟨nb, 6, none⟩ (Iv d)).setCell ⟨nb, 7, none⟩ (Iv p)).heap[nb]? = _ := set1_at (set1_at (set1_at (set1_at h.box)))
  exact ⟨hbx, ⟨cy, (hg.block G0 (by omega) (fun e => by injection e with e; omega)).trans z1, z2⟩, h.tape.grown hg (fun e => by injection e with e; omega) (fun k hk => by injection hk with hk; omega), ownN_apart h.blocks hg (fun k hk => .inl (hr k hk)), rowsN_apart h.next hg (fun k hk => .inl (hr k hk)), ownN_apart h.spurs hg (fun k hk => .inl (hr k hk)), ownN_apart h.robots hg (fun k hk => .inl (hr k hk)), h.still.trans ⟨hg.os, hg.tape, hg.output, hg.size, fun k hk _ => hg.block k (by omega) (fun e => by injection e with e; omega)⟩, Nat.le_trans h.size hg.size, h.ord⟩
end
end Go.Proofs.Ytmdnkpiihhaoeaa

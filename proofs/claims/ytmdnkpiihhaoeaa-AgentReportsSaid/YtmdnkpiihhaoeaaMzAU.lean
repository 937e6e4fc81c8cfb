/- Joined texts. -/
import Derived.Test.YtmdnkpiihhaoeaaMzAJ
import Derived.Test.YtmdnkpiihhaoeaaMzAT
import Derived.Test.YtmdnkpiihhaoeaaMzAG
import Derived.Test.YtmdnkpiihhaoeaaMzAQ
import Derived.Test.YtmdnkpiihhaoeaaMzAR
import Derived.Below
import Derived.Test.YtmdnkpiihhaoeaaMzAB
import Derived.Laws.StructEq
namespace Go.Proofs.Ytmdnkpiihhaoeaa
open Go Go.RowKit Fl

theorem Try.infoBoolS : (Try.prog.info? 4).map (fun i => (i.zero, i.size, i.bytes)) = some (some (.bool false), 1, 1) := by kernel_rfl
theorem own_but {w w' : World} {base q n : Nat} {e : TypeId} {v : Value} {xs : List Value} (h : w.ownsRow base e 1 v n xs) (hw : w.grownBy w' (some q)) (hq : q < base) : w'.ownsRow base e 1 v n xs := by
  obtain ⟨h1, hr⟩ := h
  refine ⟨h1, ?_⟩
  rcases hr with hr | ⟨b, cap, cur, hv, hgb, hh, hrest⟩
  · exact .inl hr
  · exact .inr ⟨b, cap, cur, hv, hgb, (hw.block b (block_lt hh) (fun e => by injection e with e; omega)).trans hh, hrest⟩
/-- What Shut returns. -/
def ShutPost (w : World) (B gt T n : Nat) (e : Ending) (w' : World) : Prop := ∃ (v : Value) (s : List Bool), e = .returned v ∧ s.length = n ∧ w'.ownsRow w.heap.size 4 1 v n (s.map Bo) ∧ TapeOk w' B gt (T + 1000) ∧ Still gt w.heap.size w w'
end Go.Proofs.Ytmdnkpiihhaoeaa
namespace Go.Proofs.Ytmdnkpiihhaoeaa
open Go Go.RowKit Fl

theorem lit_holdsB (w : World) (cs : Array Value) (e : TypeId) (l : List Value) (hl : cs.toList = l) : Holds (w.alloc (.cells cs e)) (some ⟨w.heap.size, 0, none⟩) l := by
  subst hl
  refine .inr ⟨w.heap.size, 0, rfl, by simp, fun j hj => ?_⟩
  rw [Nat.zero_add, cell_of_row _ _ _ _ _ _ (heap_alloc_new w _)]
  simp
abbrev kB : List BodD := [⟨0, 1, false, false⟩, ⟨-1, -1, false, false⟩]
abbrev kC : List BodD := [⟨0, 1, false, false⟩, ⟨1, -1, false, false⟩]
theorem k16 : doE false kB 1 0 1 = 0 ∧ doL false kB 1 0 1 = kC := by decide
theorem k16c : clashV kC = .tuple #[.int .i64 0, .int .i64 1, .bool true] := rfl
theorem k16f : fpB ⟨0, 1, false, false⟩ = [0, 1] := by decide
end Go.Proofs.Ytmdnkpiihhaoeaa
namespace Go.Proofs.Ytmdnkpiihhaoeaa
open Go Go.RowKit Fl

theorem NetOk.count {N : NetD} (h : NetOk N) : ∃ c : Nat, cellsN N = c ∧ 1 ≤ c ∧ c ≤ 48 := by
  have h1 := slotsK_bounds (l := N.spurs) (fun s hs => by have := (h.spurOk s hs).slots; omega) N.spurs.length (Nat.le_refl _)
  have h2 := h.some
  have h3 := h.few
  have h4 := h.spurs6
  refine ⟨(cellsN N).toNat, ?_, ?_, ?_⟩ <;> unfold cellsN <;> omega
theorem NextIs.ne {N : NetD} (hok : NetOk N) {c : Int} {xs : List Int} (h : NextIs N c xs) : ∀ x ∈ xs, x ≠ c := by
  rcases h with ⟨b, hb, hb', rfl, rfl⟩ | ⟨k, hk, h1, h2, rfl⟩
  · intro x hx
    rcases List.mem_append.1 hx with hx | hx
    · exact (validG_row hok.graph hb' x hx).2.2
    · unfold spurBases at hx
      obtain ⟨s, hs, rfl⟩ := List.mem_map.1 hx
      obtain ⟨k, hk, rfl⟩ := List.mem_iff_getElem.1 (List.mem_filter.1 hs).1
      have hbk := hok.bases k hk
      have h3 := (slotsK_bounds (l := N.spurs) (fun s hs => by have := (hok.spurOk s hs).slots; omega) k (by omega)).1
      omega
  · intro x hx
    rw [List.mem_singleton] at hx
    subst hx
    have hbk := hok.bases k hk
    have h3 := (slotsK_bounds (l := N.spurs) (fun s hs => by have := (hok.spurOk s hs).slots; omega) k (by omega)).1
    have h4 := (hok.spurOk _ (List.getElem_mem hk)).out
    split <;> omega
/-- What the landed cells says of a cell of a valid network. -/
theorem nextMade (Ab An As Ar : Option Addr) (cb cn cs cr : Nat) (N : NetD) (c : Int) (w : World) (hN : NetAt w Ab An As Ar N) (hok : NetOk N) (hcr : N.robots.length ≤ cr) (hc : inN N c) :
    ∃ xs : List Int, xs.length ≤ 24 ∧ (∀ x ∈ xs, inN N x ∧ x ≠ c) ∧ (∀ W, Below w.heap.size w W → Calls Try.prog 12 #[.agg #[.slice Ab N.blocks.length cb, .slice An N.next.length cn, .slice As N.spurs.length cs, .slice Ar N.robots.length cr, Iv N.queue, Iv N.aging, Iv N.detours, Iv N.patience], .int .i64 c] W (NextPost2 W xs)) ∧
      ∀ z W, Below w.heap.size w W → Calls Try.prog 24 #[.agg #[.slice Ab N.blocks.length cb, .slice An N.next.length cn, .slice As N.spurs.length cs, .slice Ar N.robots.length cr, Iv N.queue, Iv N.aging, Iv N.detours, Iv N.patience], .int .i64 c, .int .i64 z] W fun e w' => e = .returned (.bool (decide (z ∈ xs))) ∧ Below W.heap.size W w' := by
  obtain ⟨xs, hx, h24, hin⟩ := hok.nextIs hc
  have hN2 := fun W (hW : Below w.heap.size w W) => devNextIs_c Ab An As Ar cb cn cs cr N c xs W (hN.keep hW) hok hcr hx
  exact ⟨xs, h24, fun x h => ⟨hin x h, hx.ne hok x h⟩, hN2, fun z W hW => follows_c Ab An As Ar cb cn cs cr N c z xs W h24 (fun W2 hW2 => hN2 W2 (hW.trans (hW2.mono hW.size)))⟩
/-- A made network, the tape, and a list of bodies beside them. -/
structure PN (w w2 : World) (gt T X top : Nat) (N : NetD) (Ab An As Ar : Option Addr) (cb cn cs cr : Nat) (v : Value) (l : List BodD) (wr : World) : Prop where
  made : MadeN w w2 gt T X top N Ab An As Ar cb cn cs cr wr
  own : bodS.Own wr (gt + 1) v l
section
variable {w w2 wr w' : World} {gt T T' X top : Nat} {N : NetD} {Ab An As Ar : Option Addr} {cb cn cs cr : Nat} {v v' : Value} {l l' : List BodD}
theorem PN.next (h : PN w w2 gt T X top N Ab An As Ar cb cn cs cr v l wr) (ht : TapeOk w' w.heap.size gt T') (hg : wr.grownBy w' (some gt)) : PN w w2 gt T' X top N Ab An As Ar cb cn cs cr v l w' :=
  ⟨h.made.still ht (Still.of_grown hg (Nat.le_refl _)), h.own.far hg (by omega)⟩
theorem PN.keep (h : PN w w2 gt T X top N Ab An As Ar cb cn cs cr v l wr) (hb : Below wr.heap.size wr w') : PN w w2 gt T X top N Ab An As Ar cb cn cs cr v l w' :=
  ⟨h.made.keep hb, h.own.keep hb⟩
theorem PN.drew (h : PN w w2 gt T X top N Ab An As Ar cb cn cs cr v l wr) : PN w w2 gt T X top N Ab An As Ar cb cn cs cr v l wr.drew := h.keep (Below.refl _ _).drew
theorem PN.drewN {n : Nat} (h : PN w w2 gt T X top N Ab An As Ar cb cn cs cr v l wr) : PN w w2 gt T X top N Ab An As Ar cb cn cs cr v l (wr.drewN n) := h.keep (below_drewN (Below.refl _ _) n)
theorem PN.low (h : PN w w2 gt T X top N Ab An As Ar cb cn cs cr v l wr) : gt < wr.heap.size := by
  have h1 := h.made.lowG
  have h2 := block_lt h.made.box
  have h3 := h.made.lowX
  omega
/-- The list is replaced by one of a call. -/
theorem PN.put (h : PN w w2 gt T X top N Ab An As Ar cb cn cs cr v l wr) (hb : Below wr.heap.size wr w') (ho : bodS.Own w' wr.heap.size v' l') : PN w w2 gt T X top N Ab An As Ar cb cn cs cr v' l' w' :=
  ⟨h.made.keep hb, ho.base (by have := h.low; omega)⟩
theorem PN.more (h : PN w w2 gt T X top N Ab An As Ar cb cn cs cr v l wr) (hT : T ≤ T') : PN w w2 gt T' X top N Ab An As Ar cb cn cs cr v l wr :=
  ⟨h.made.still (h.made.nm.tape.more hT) (Still.refl _ _ _), h.own⟩
theorem PN.holds {A : Option Addr} {c : Nat} (h : PN w w2 gt T X top N Ab An As Ar cb cn cs cr (.slice A l.length c) l wr) : Holds wr A (bodS.cs l) := ownsRow_holds h.own
theorem PN.box (h : PN w w2 gt T X top N Ab An As Ar cb cn cs cr v l wr) : wr.cell? ⟨X, 0, none⟩ = some (.slice Ab N.blocks.length cb) ∧ wr.cell? ⟨X, 1, none⟩ = some (.slice An N.next.length cn) ∧ wr.cell? ⟨X, 2, none⟩ = some (.slice As N.spurs.length cs) ∧ wr.cell? ⟨X, 3, none⟩ = some (.slice Ar N.robots.length cr) ∧ wr.cell? ⟨X, 4, none⟩ = some (Iv N.queue) ∧ wr.cell? ⟨X, 5, none⟩ = some (Iv N.aging) ∧ wr.cell? ⟨X, 6, none⟩ = some (Iv N.detours) ∧ wr.cell? ⟨X, 7, none⟩ = some (Iv N.patience) := by
  have k := boxAt_of h.made.box
  exact ⟨k.c0, k.c1, k.c2, k.c3, k.c4, k.c5, k.c6, k.c7⟩
theorem PN.body {b : Nat} {q : BodD} (_h : PN w w2 gt T X top N Ab An As Ar cb cn cs cr v l wr) (hb : BodAt wr b q) (hg : wr.grownBy w' (some gt)) (hne : b ≠ gt) : BodAt w' b q := hb.grown hg (fun e => by injection e with e; exact hne e.symm)
end
/-- What one body of a list holds. -/
theorem one_cells {w : World} {A : Option Addr} {f : BodD} (h : Holds w A (bodS.cs [f])) : ∃ b o, A = some ⟨b, o, none⟩ ∧ w.cell? ⟨b, o, none⟩ = some (.int .i64 f.cel) ∧ w.cell? ⟨b, o + 1, none⟩ = some (.int .i64 f.dst) ∧ w.cell? ⟨b, o + 2, none⟩ = some (.bool f.srv) ∧ w.cell? ⟨b, o + 3, none⟩ = some (.bool f.flt) := by
  obtain ⟨b, o, hA, _, ha⟩ := StK.holds_at h (i := 0) (by simp)
  have k := bod_cells ha
  simp only [Nat.zero_mul, Nat.add_zero, List.getElem_cons_zero] at k
  exact ⟨b, o, hA, k⟩
theorem holds_one {w : World} {b : Nat} {f : BodD} (h : BodAt w b f) : bodS.Own w b (.slice (some ⟨b, 0, none⟩) 1 1) [f] := by
  refine ⟨by simp [StK.cs_length], .inr ⟨b, 1, BC f, rfl, Nat.le_refl _, h, Nat.le_refl 1, by unfold maxLen; omega, rfl, rfl⟩⟩
end Go.Proofs.Ytmdnkpiihhaoeaa
namespace Go.Proofs.Ytmdnkpiihhaoeaa.Fl

structure FrD where
  kind : Int
  robot : Int
  seq : Int
  cell : Int
  flag : Int
deriving DecidableEq
/-- The zero frame. -/
def zeroF : FrD := ⟨0, 0, 0, 0, 0⟩
/-- A number of 64 bits without a sign. -/
def U64 (s : Int) : Prop := 0 ≤ s ∧ s < 18446744073709551616
def fromB (a b x : Int) : Bool := decide (a ≤ x ∧ x ≤ b)
theorem fromB_iff {a b x : Int} : fromB a b x = true ↔ a ≤ x ∧ x ≤ b := by simp [fromB]
theorem fromB_no {a b x : Int} (h : fromB a b x = false) : ¬ (a ≤ x ∧ x ≤ b) := by simpa [fromB] using h
def lastCell (k : Int) : Int := if k = 3 then 0 else 47
def firstFlag (k : Int) : Int := if k = 2 then 1 else 0
def lastFlag (k : Int) : Int := if k = 1 then 1 else 2
def okF (f : FrD) : Bool := decide (1 ≤ f.seq) && fromB 0 7 f.robot && fromB 0 (lastCell f.kind) f.cell && fromB (firstFlag f.kind) (lastFlag f.kind) f.flag
def errF (f : FrD) : Int := if f.kind = 1 ∨ f.kind = 2 ∨ f.kind = 3 then (if okF f then 0 else 19) else 22
def validF (f : FrD) : Bool := decide (errF f = 0)
/-- Byte j of a number, the least one first. -/
def byteN (s : Int) (j : Nat) : Int := s / 256 ^ j % 256
def encF (f : FrD) : List Int := [f.kind, f.robot, byteN f.seq 7, byteN f.seq 6, byteN f.seq 5, byteN f.seq 4, byteN f.seq 3, byteN f.seq 2, byteN f.seq 1, byteN f.seq 0, f.cell, f.flag]
/-- The number of some bytes, the greatest one first. -/
def beN (l : List Int) : Int := l.foldl (fun a b => a * 256 + b) 0
def rawF (l : List Int) : FrD := ⟨l.getD 0 0, l.getD 1 0, beN ((l.drop 2).take 8), l.getD 10 0, l.getD 11 0⟩
def errD (l : List Int) : Int := if l.length = 12 then errF (rawF l) else 21
def decF (l : List Int) : FrD := if errD l = 0 then rawF l else zeroF
/-- The bytes of a slice. -/
def BytesL (l : List Int) : Prop := ∀ x ∈ l, 0 ≤ x ∧ x < 256

theorem byteN_lt (s : Int) (j : Nat) : 0 ≤ byteN s j ∧ byteN s j < 256 := by unfold byteN; omega
theorem errF_cases (f : FrD) : errF f = 0 ∨ errF f = 19 ∨ errF f = 22 := by
  unfold errF
  split
  · split
    · exact .inl rfl
    · exact .inr (.inl rfl)
  · exact .inr (.inr rfl)
theorem errF_ok {f : FrD} (h : errF f = 0) : (f.kind = 1 ∨ f.kind = 2 ∨ f.kind = 3) ∧ okF f = true := by
  unfold errF at h
  split at h
  · rename_i hk
    split at h
    · rename_i ho; exact ⟨hk, ho⟩
    · cases h
  · cases h
theorem okF_bounds {f : FrD} (h : okF f = true) : 1 ≤ f.seq ∧ (0 ≤ f.robot ∧ f.robot ≤ 7) ∧ (0 ≤ f.cell ∧ f.cell ≤ lastCell f.kind) ∧ firstFlag f.kind ≤ f.flag ∧ f.flag ≤ lastFlag f.kind := by
  unfold okF at h
  simp only [Bool.and_eq_true, fromB_iff, decide_eq_true_eq] at h
  exact ⟨h.1.1.1, h.1.1.2, h.1.2, h.2⟩
theorem lastCell_le (k : Int) : lastCell k ≤ 47 := by unfold lastCell; split <;> omega
theorem firstFlag_ge (k : Int) : 0 ≤ firstFlag k := by unfold firstFlag; split <;> omega
theorem lastFlag_le (k : Int) : lastFlag k ≤ 2 := by unfold lastFlag; split <;> omega
theorem errF_bytes {f : FrD} (h : errF f = 0) : (0 ≤ f.kind ∧ f.kind < 256) ∧ (0 ≤ f.robot ∧ f.robot < 256) ∧ (0 ≤ f.cell ∧ f.cell < 256) ∧ (0 ≤ f.flag ∧ f.flag < 256) := by
  obtain ⟨hk, ho⟩ := errF_ok h
  obtain ⟨_, h1, h2, h3⟩ := okF_bounds ho
  have := lastCell_le f.kind
  have := firstFlag_ge f.kind
  have := lastFlag_le f.kind
  refine ⟨by omega, by omega, by omega, by omega⟩
theorem byteN_succ (s : Int) (j : Nat) : s / 256 ^ (j + 1) = s / 256 ^ j / 256 := by
  rw [Int.pow_succ, Int.ediv_ediv_of_nonneg (Int.le_of_lt (Int.pow_pos (by decide)))]
theorem byteN_step (s : Int) (j : Nat) : s / 256 ^ (j + 1) * 256 + byteN s j = s / 256 ^ j := by
  rw [byteN_succ]; unfold byteN; omega
theorem u64_top {s : Int} (h : U64 s) : s / 256 ^ 8 = 0 := by
  obtain ⟨h1, h2⟩ := h
  exact Int.ediv_eq_zero_of_lt h1 (by simpa using h2)
/-- The first k of the eight bytes of a number make the number without its last bytes. -/
def topL (s : Int) : Nat → List Int
  | 0 => []
  | k + 1 => topL s k ++ [byteN s (7 - k)]
theorem topL_len (s : Int) : ∀ k, (topL s k).length = k
  | 0 => rfl
  | k + 1 => by simp [topL, topL_len s k]
theorem beN_snoc (l : List Int) (x : Int) : beN (l ++ [x]) = beN l * 256 + x := by simp [beN]
theorem beN_top {s : Int} (h : U64 s) : ∀ k, k ≤ 8 → beN (topL s k) = s / 256 ^ (8 - k)
  | 0, _ => by rw [u64_top h]; rfl
  | k + 1, hk => by
    rw [topL, beN_snoc, beN_top h k (by omega), show 8 - k = (7 - k) + 1 by omega, byteN_step, show 8 - (k + 1) = 7 - k by omega]
theorem encF_len (f : FrD) : (encF f).length = 12 := rfl
theorem encF_bytes {f : FrD} (h : errF f = 0) : BytesL (encF f) := by
  obtain ⟨h1, h2, h3, h4⟩ := errF_bytes h
  intro x hx
  simp only [encF, List.mem_cons, List.not_mem_nil, or_false] at hx
  rcases hx with rfl | rfl | rfl | rfl | rfl | rfl | rfl | rfl | rfl | rfl | rfl | rfl <;> first | assumption | exact byteN_lt _ _
theorem raw_enc {f : FrD} (h : U64 f.seq) : rawF (encF f) = f := by
  have e : beN (((encF f).drop 2).take 8) = f.seq := by
    have := beN_top h 8 (by omega)
    simp only [Nat.sub_self, Int.pow_zero, Int.ediv_one] at this
    exact this
  unfold rawF
  rw [e]
  rfl
theorem errD_enc {f : FrD} (h : U64 f.seq) : errD (encF f) = errF f := by unfold errD; rw [if_pos (encF_len f), raw_enc h]
theorem dec_enc {f : FrD} (h : U64 f.seq) (he : errF f = 0) : decF (encF f) = f := by unfold decF; rw [errD_enc h, if_pos he, raw_enc h]
theorem enc_inj {f g : FrD} (hf : U64 f.seq) (hg : U64 g.seq) (h : encF f = encF g) : f = g := by rw [← raw_enc hf, ← raw_enc hg, h]
theorem beN_fold : ∀ (l : List Int) (a : Int), 0 ≤ a → BytesL l → 0 ≤ l.foldl (fun a b => a * 256 + b) a ∧ l.foldl (fun a b => a * 256 + b) a < (a + 1) * 256 ^ l.length
  | [], a, h, _ => by simp; omega
  | x :: l, a, h, hb => by
    have hx := hb x (by simp)
    obtain ⟨h1, h2⟩ := beN_fold l (a * 256 + x) (by omega) (fun y hy => hb y (by simp [hy]))
    refine ⟨h1, Int.lt_of_lt_of_le h2 ?_⟩
    rw [List.length_cons, Int.pow_succ, Int.mul_comm (256 ^ l.length) 256, ← Int.mul_assoc]
    exact Int.mul_le_mul_of_nonneg_right (by omega) (Int.le_of_lt (Int.pow_pos (by decide)))
theorem beN_bound (l : List Int) (h : BytesL l) : 0 ≤ beN l ∧ beN l < 256 ^ l.length := by
  have := beN_fold l 0 (by omega) h
  simpa [beN] using this
theorem raw_u64 {l : List Int} (h : BytesL l) (hl : l.length = 12) : U64 (rawF l).seq := by
  have h1 := beN_bound ((l.drop 2).take 8) (fun x hx => h x (List.mem_of_mem_drop (List.mem_of_mem_take hx)))
  have h2 : ((l.drop 2).take 8).length = 8 := by simp; omega
  rw [h2] at h1
  refine ⟨h1.1, ?_⟩
  show beN ((l.drop 2).take 8) < _
  have := h1.2
  simpa using this
theorem byteN_zero {a x : Int} (hx : 0 ≤ x ∧ x < 256) : byteN (a * 256 + x) 0 = x := by
  unfold byteN; simp; omega
theorem byteN_up {a x : Int} (hx : 0 ≤ x ∧ x < 256) (j : Nat) : byteN (a * 256 + x) (j + 1) = byteN a j := by
  unfold byteN
  rw [Int.pow_succ, Int.mul_comm (256 ^ j) 256, ← Int.ediv_ediv_of_nonneg (by omega), show (a * 256 + x) / 256 = a by omega]
theorem enc_raw {l : List Int} (h : BytesL l) (hl : l.length = 12) : encF (rawF l) = l := by
  match l, hl with
  | [a, b, c0, c1, c2, c3, c4, c5, c6, c7, d, e], _ =>
    have k := fun x hx => h x hx
    have e0 : (rawF [a, b, c0, c1, c2, c3, c4, c5, c6, c7, d, e]).seq = (((((((0 * 256 + c0) * 256 + c1) * 256 + c2) * 256 + c3) * 256 + c4) * 256 + c5) * 256 + c6) * 256 + c7 := rfl
    unfold encF
    rw [e0]
    have h0 := h c0 (by simp)
    have h1 := h c1 (by simp)
    have h2 := h c2 (by simp)
    have h3 := h c3 (by simp)
    have h4 := h c4 (by simp)
    have h5 := h c5 (by simp)
    have h6 := h c6 (by simp)
    have h7 := h c7 (by simp)
    rw [byteN_up h7, byteN_up h6, byteN_up h5, byteN_up h4, byteN_up h3, byteN_up h2, byteN_up h1, byteN_zero h0, byteN_up h7, byteN_up h6, byteN_up h5, byteN_up h4, byteN_up h3, byteN_up h2, byteN_zero h1,
      byteN_up h7, byteN_up h6, byteN_up h5, byteN_up h4, byteN_up h3, byteN_zero h2, byteN_up h7, byteN_up h6, byteN_up h5, byteN_up h4, byteN_zero h3, byteN_up h7, byteN_up h6, byteN_up h5, byteN_zero h4,
      byteN_up h7, byteN_up h6, byteN_zero h5, byteN_up h7, byteN_zero h6, byteN_zero h7]
    rfl
theorem enc_dec {l : List Int} (h : BytesL l) (he : errD l = 0) : encF (decF l) = l ∧ U64 (decF l).seq ∧ errF (decF l) = 0 := by
  have hl : l.length = 12 := by
    unfold errD at he
    split at he
    · assumption
    · cases he
  unfold decF
  rw [if_pos he]
  unfold errD at he
  rw [if_pos hl] at he
  exact ⟨enc_raw h hl, raw_u64 h hl, he⟩
end Go.Proofs.Ytmdnkpiihhaoeaa.Fl
namespace Go.Proofs.Ytmdnkpiihhaoeaa.Fl

structure SndD where
  seq : Int
  isOpen : Bool
  cell : Int
  flag : Int
deriving DecidableEq
def zeroSn : SndD := ⟨0, false, 0, 0⟩
def topSeq : Int := 18446744073709551615
def offE (s : SndD) (c f : Int) : Int := if c < 0 ∨ 48 ≤ c ∨ (f ≠ 0 ∧ f ≠ 1) then 19 else if s.isOpen = true then 23 else if s.seq = 18446744073709551615 then 25 else 0
def offS (s : SndD) (c f : Int) : SndD := if offE s c f = 0 then ⟨s.seq + 1, true, c, f⟩ else zeroSn
def outF (s : SndD) (r : Int) : FrD := if s.isOpen = true then ⟨1, r, s.seq, s.cell, s.flag⟩ else zeroF
def confB (s : SndD) (q : Int) : Bool := s.isOpen && decide (q = s.seq)
def confS (s : SndD) (q : Int) : SndD := if confB s q = true then ⟨s.seq, false, s.cell, s.flag⟩ else s
def freshB (a b : Int) : Bool := decide (a < b)
theorem off_range {s : SndD} {c f : Int} (h : c < 0 ∨ 48 ≤ c ∨ (f ≠ 0 ∧ f ≠ 1)) : offE s c f = 19 ∧ offS s c f = zeroSn := by
  have e : offE s c f = 19 := by unfold offE; rw [if_pos h]
  refine ⟨e, ?_⟩
  unfold offS; rw [e]; rfl
theorem off_full {s : SndD} {c f : Int} (h : ¬ (c < 0 ∨ 48 ≤ c ∨ (f ≠ 0 ∧ f ≠ 1))) (ho : s.isOpen = true) : offE s c f = 23 ∧ offS s c f = zeroSn := by
  have e : offE s c f = 23 := by unfold offE; rw [if_neg h, if_pos ho]
  refine ⟨e, ?_⟩
  unfold offS; rw [e]; rfl
theorem off_none {s : SndD} {c f : Int} (h : ¬ (c < 0 ∨ 48 ≤ c ∨ (f ≠ 0 ∧ f ≠ 1))) (ho : s.isOpen = false) (hs : s.seq = 18446744073709551615) : offE s c f = 25 ∧ offS s c f = zeroSn := by
  have e : offE s c f = 25 := by unfold offE; rw [if_neg h, ho, if_neg (by decide), if_pos hs]
  refine ⟨e, ?_⟩
  unfold offS; rw [e]; rfl
theorem off_ok {s : SndD} {c f : Int} (h : ¬ (c < 0 ∨ 48 ≤ c ∨ (f ≠ 0 ∧ f ≠ 1))) (ho : s.isOpen = false) (hs : s.seq ≠ 18446744073709551615) : offE s c f = 0 ∧ offS s c f = ⟨s.seq + 1, true, c, f⟩ := by
  have e : offE s c f = 0 := by unfold offE; rw [if_neg h, ho, if_neg (by decide), if_neg hs]
  refine ⟨e, ?_⟩
  unfold offS; rw [e]; rfl
end Go.Proofs.Ytmdnkpiihhaoeaa.Fl
namespace Go.Proofs.Ytmdnkpiihhaoeaa.Fl

structure AgtD where
  las : Int
  dst : Int
  srv : Bool
  rpt : Int
  cel : Int
deriving DecidableEq
def newA : AgtD := ⟨0, -1, false, 0, 0⟩
/-- A frame concerns a robot. -/
def mineF (r : Int) (f : FrD) : Bool := validF f && decide (f.robot = r)
/-- The agent has heard a frame. -/
def hearA (a : AgtD) (r : Int) (f : FrD) : AgtD :=
  if mineF r f = true then
    (if f.kind = 1 then (if freshB a.las f.seq = true then ⟨f.seq, f.cell, decide (f.flag = 1), 0, 0⟩ else a)
     else if f.kind = 3 ∧ a.rpt ≠ 0 ∧ f.seq = a.las ∧ f.flag = a.rpt then ⟨a.las, a.dst, a.srv, 0, 0⟩ else a)
  else a
/-- What it answers. -/
def hearL (r : Int) (f : FrD) : List FrD := if mineF r f = true ∧ f.kind = 1 then [⟨3, r, f.seq, 0, 0⟩] else []
/-- The report of an agent. -/
def repF (a : AgtD) (r : Int) : FrD := ⟨2, r, a.las, a.cel, a.rpt⟩
def againL (a : AgtD) (r : Int) (b : BodD) : List FrD := if a.rpt ≠ 0 ∧ b.flt = false then [repF a r] else []
/-- A transit ends. -/
def endsB (b : BodD) : Bool := floorB b && b.dst != -1 && !b.flt
/-- A transit begins. -/
def begsB (fol : Bool) (a : AgtD) (b : BodD) : Bool := restB b && decide (a.dst ≠ -1) && fol
def arrA (a : AgtD) (b : BodD) : AgtD := ⟨a.las, -1, a.srv, 1, b.dst⟩
def arrB (a : AgtD) (b : BodD) : BodD := ⟨b.dst, -1, b.srv || a.srv, b.flt⟩
def driveA (a : AgtD) (b : BodD) : AgtD := if endsB b = true then arrA a b else a
def driveB (fol : Bool) (a : AgtD) (b : BodD) : BodD := if endsB b = true then arrB a b else if begsB fol a b = true then ⟨b.cel, a.dst, b.srv, b.flt⟩ else b
def driveL (a : AgtD) (r : Int) (b : BodD) : List FrD := if endsB b = true then [repF (arrA a b) r] else []
/-- A service ends. -/
def finsB (b : BodD) : Bool := floorB b && b.srv && !b.flt
def srvA (a : AgtD) (b : BodD) : AgtD := ⟨a.las, a.dst, a.srv, 2, b.cel⟩
def finA (a : AgtD) (b : BodD) : AgtD := if finsB b = true then srvA a b else a
def finB (b : BodD) : BodD := if finsB b = true then ⟨b.cel, b.dst, false, b.flt⟩ else b
def finL (a : AgtD) (r : Int) (b : BodD) : List FrD := if finsB b = true then [repF (srvA a b) r] else []
end Go.Proofs.Ytmdnkpiihhaoeaa.Fl
namespace Go.Proofs.Ytmdnkpiihhaoeaa.Fl

/-- What Send returns. -/
def sendL (l : List FrD) (f : FrD) : List FrD := if l.length ≤ 6 then (if l.length < 6 then l ++ [f] else l) else []
/-- Whether a list is a channel with a frame i. -/
def hasI (l : List FrD) (i : Int) : Bool := decide (l.length ≤ 6 ∧ 0 ≤ i ∧ i < (l.length : Int))
/-- The list without frame i. -/
def dropL (l : List FrD) (i : Nat) : List FrD := l.take i ++ l.drop (i + 1)
def delF (l : List FrD) (i : Int) : FrD := if hasI l i then l.getD i.toNat zeroF else zeroF
def delL (l : List FrD) (i : Int) : List FrD := if hasI l i then dropL l i.toNat else []
def dblL (l : List FrD) (i : Int) : List FrD := if hasI l i then sendL l (l.getD i.toNat zeroF) else []
/-- How often a frame is in a list. -/
def cntF (l : List FrD) (f : FrD) : Nat := l.countP (fun g => decide (g = f))

theorem hasI_iff {l : List FrD} {i : Int} : hasI l i = true ↔ l.length ≤ 6 ∧ 0 ≤ i ∧ i < (l.length : Int) := by simp [hasI]
theorem hasI_no {l : List FrD} {i : Int} (h : hasI l i = false) : delF l i = zeroF ∧ delL l i = [] ∧ dblL l i = [] := by simp [delF, delL, dblL, h]
theorem hasI_at {l : List FrD} {i : Nat} (h : hasI l (i : Int) = true) : ∃ hi : i < l.length, l.length ≤ 6 ∧ delF l i = l[i] ∧ delL l i = dropL l i ∧ dblL l i = sendL l l[i] := by
  have h1 := hasI_iff.1 h
  have hi : i < l.length := by omega
  refine ⟨hi, h1.1, ?_, ?_, ?_⟩
  · unfold delF; rw [if_pos h]; simp [hi]
  · unfold delL; rw [if_pos h]; simp
  · unfold dblL; rw [if_pos h]; simp [hi]
theorem hasI_lt {l : List FrD} {i : Nat} (h : i < l.length) (h6 : l.length ≤ 6) : hasI l (i : Int) = true := hasI_iff.2 ⟨h6, by omega, by omega⟩
theorem dropL_len {l : List FrD} {i : Nat} (h : i < l.length) : (dropL l i).length = l.length - 1 := by
  unfold dropL; simp; omega
theorem dropL_at {l : List FrD} {i : Nat} (j : Nat) (h : i < l.length) : (dropL l i)[j]? = l[if i ≤ j then j + 1 else j]? := by
  unfold dropL
  have ht : (l.take i).length = i := by rw [List.length_take]; omega
  by_cases h1 : i ≤ j
  · rw [List.getElem?_append_right (by omega), if_pos h1, List.getElem?_drop, ht]
    congr 1
    omega
  · rw [List.getElem?_append_left (by omega), if_neg h1, List.getElem?_take, if_pos (by omega)]
theorem sendL_len (l : List FrD) (f : FrD) : (sendL l f).length ≤ 6 := by
  unfold sendL; split
  · split
    · simp; omega
    · omega
  · simp
theorem sendL_cases {l : List FrD} (f : FrD) (h : l.length ≤ 6) : (l.length < 6 ∧ sendL l f = l ++ [f]) ∨ (l.length = 6 ∧ sendL l f = l) := by
  unfold sendL; rw [if_pos h]
  by_cases h1 : l.length < 6
  · rw [if_pos h1]; exact .inl ⟨h1, rfl⟩
  · rw [if_neg h1]; exact .inr ⟨by omega, rfl⟩
theorem cnt_le (l : List FrD) (f : FrD) : cntF l f ≤ l.length := List.countP_le_length
theorem cnt_snoc (l : List FrD) (f g : FrD) : cntF (l ++ [f]) g = cntF l g + (if g = f then 1 else 0) := by
  unfold cntF; rw [List.countP_append]
  by_cases h : g = f
  · subst h; simp
  · simp [h, Ne.symm h]
theorem cnt_send {l : List FrD} (f g : FrD) (h : l.length ≤ 6) : (cntF (sendL l f) g : Int) = cntF l g + (if g = f then ((sendL l f).length : Int) - l.length else 0) := by
  rcases sendL_cases f h with ⟨_, e⟩ | ⟨_, e⟩
  · rw [e, cnt_snoc, List.length_append, List.length_singleton]; split <;> omega
  · rw [e]; split <;> omega
theorem cnt_drop {l : List FrD} {i : Nat} (hi : i < l.length) (g : FrD) : (cntF (dropL l i) g : Int) = cntF l g - (if g = l[i] then 1 else 0) := by
  have e : l = l.take i ++ l[i] :: l.drop (i + 1) := by rw [← List.drop_eq_getElem_cons hi, List.take_append_drop]
  have h1 : cntF l g = cntF (l.take i) g + (cntF (l.drop (i + 1)) g + (if g = l[i] then 1 else 0)) := by
    have h2 : cntF l g = cntF (l.take i ++ l[i] :: l.drop (i + 1)) g := congrArg (fun x => cntF x g) e
    rw [h2]
    unfold cntF
    rw [List.countP_append, List.countP_cons]
    by_cases h : g = l[i]
    · simp [← h]
    · simp [h, Ne.symm h]
  have h2 : cntF (dropL l i) g = cntF (l.take i) g + cntF (l.drop (i + 1)) g := by unfold dropL cntF; rw [List.countP_append]
  rw [h1, h2]
  split <;> simp <;> omega
end Go.Proofs.Ytmdnkpiihhaoeaa.Fl
namespace Go.Proofs.Ytmdnkpiihhaoeaa
open Go Go.RowKit Fl

/-- A frame as a value, and its cells. -/
abbrev FV (f : FrD) : Value := .agg #[.int .i64 f.kind, .int .i64 f.robot, .int .u64 f.seq, .int .i64 f.cell, .int .i64 f.flag]
abbrev FC (f : FrD) : Array Value := #[.int .i64 f.kind, .int .i64 f.robot, .int .u64 f.seq, .int .i64 f.cell, .int .i64 f.flag]
abbrev Bv8 (z : Int) : Value := .int .u8 z
theorem isFrom_c (x a b : Int) (w : World) : Calls Try.prog 69 #[.int .i64 x, .int .i64 a, .int .i64 b] w fun e w' => e = .returned (.bool (fromB a b x)) ∧ w = w' := by
  by_cases h1 : a ≤ x
  · by_cases h2 : x ≤ b
    · have HF : Hid (fromB a b x = true) := Lib.hid (fromB_iff.2 ⟨h1, h2⟩)
      go_enter Try.func69, Try.ntmps69
      go_wp2
      go_ret
      exact ⟨by rw [HF.out]; rfl, rfl⟩
    · have HF : Hid (fromB a b x = false) := Lib.hid (by simp [fromB, h2])
      have h2' : decide (x ≤ b) = false := by simpa using h2
      go_enter Try.func69, Try.ntmps69
      go_wp2
      go_ret
      exact ⟨by rw [HF.out]; rfl, rfl⟩
  · have HF : Hid (fromB a b x = false) := Lib.hid (by simp [fromB, h1])
    have h1' : decide (a ≤ x) = false := by simpa using h1
    go_enter Try.func69, Try.ntmps69
    go_wp2
    go_ret
    exact ⟨by rw [HF.out]; rfl, rfl⟩
theorem isFrom_k (x a b : Int) (z : Bool) (h : fromB a b x = z) (w : World) : Calls Try.prog 69 #[.int .i64 x, .int .i64 a, .int .i64 b] w fun e w' => e = .returned (.bool z) ∧ w = w' := by
  have := isFrom_c x a b w
  rwa [h] at this
theorem below_newF (w : World) (o : Obj) : Below w.heap.size w (w.alloc o) := (Below.refl _ _).alloc (Nat.le_refl _) _
set_option maxRecDepth 100000 in
set_option maxHeartbeats 4000000 in
theorem check_k (f : FrD) (w : World) : Calls Try.prog 49 #[FV f] w fun e w' => e = .returned (.int .i64 (errF f)) ∧ Below w.heap.size w w' := by
  obtain ⟨kind, robot, seq, cell, flag⟩ := f
  show Calls _ _ #[.agg #[.int .i64 kind, .int .i64 robot, .int .u64 seq, .int .i64 cell, .int .i64 flag]] w _
  have HW := Lib.hid (below_newF w (.cells #[.int .i64 kind, .int .i64 robot, .int .u64 seq, .int .i64 cell, .int .i64 flag] 36))
  by_cases hk : kind = 1 ∨ kind = 2 ∨ kind = 3
  · have key : ∀ (z : Int), okF ⟨kind, robot, seq, cell, flag⟩ = true ∧ z = 0 ∨ okF ⟨kind, robot, seq, cell, flag⟩ = false ∧ z = 19 → z = errF ⟨kind, robot, seq, cell, flag⟩ := fun z hz => by
      unfold errF
      rw [if_pos hk]
      rcases hz with ⟨h1, h2⟩ | ⟨h1, h2⟩ <;> rw [h1, h2] <;> rfl
    have K := Lib.hid key
    clear key
    by_cases hs : seq < 1
    · have HR : Hid (errF ⟨kind, robot, seq, cell, flag⟩ = 19) := Lib.hid (K.out 19 (.inr ⟨by unfold okF; rw [decide_eq_false (by show ¬ 1 ≤ seq; omega)]; rfl, rfl⟩)).symm
      rcases hk with rfl | rfl | rfl
      all_goals
        go_enter Try.func49, Try.ntmps49
        go_wp2
        go_ret
        exact ⟨by rw [HR.out]; rfl, HW.out⟩
    · have hs' : decide (seq < 1) = false := by simpa using hs
      have hs1 : decide (1 ≤ seq) = true := by simp; omega
      rcases h1 : fromB 0 7 robot with _ | _
      · have HR : Hid (errF ⟨kind, robot, seq, cell, flag⟩ = 19) := Lib.hid (K.out 19 (.inr ⟨by unfold okF; simp [h1], rfl⟩)).symm
        have C1 := Lib.hid (isFrom_k robot 0 7 false h1)
        clear h1 hs1 K
        rcases hk with rfl | rfl | rfl
        all_goals
          go_enter Try.func49, Try.ntmps49
          go_wp2_with (go_at_call 69; refine (C1.out _).mono ?_; rintro e w' ⟨rfl, rfl⟩)
          go_ret
          exact ⟨by rw [HR.out]; rfl, HW.out⟩
      · have C1 := Lib.hid (isFrom_k robot 0 7 true h1)
        rcases h2 : fromB 0 (lastCell kind) cell with _ | _
        · have HR : Hid (errF ⟨kind, robot, seq, cell, flag⟩ = 19) := Lib.hid (K.out 19 (.inr ⟨by unfold okF; simp [h2], rfl⟩)).symm
          have C2 := Lib.hid (isFrom_k cell 0 (lastCell kind) false h2)
          clear h1 hs1 h2 K
          rcases hk with rfl | rfl | rfl
          all_goals
            simp only [lastCell] at C2
            go_enter Try.func49, Try.ntmps49
            go_wp2_with fail
            refine (C1.out _).mono ?_; rintro e w' ⟨rfl, rfl⟩
            go_wp2_with fail
            refine (C2.out _).mono ?_; rintro e w' ⟨rfl, rfl⟩
            go_wp2_with fail
            go_ret
            exact ⟨by rw [HR.out]; rfl, HW.out⟩
        · have C2 := Lib.hid (isFrom_k cell 0 (lastCell kind) true h2)
          obtain ⟨z, h3⟩ : ∃ z, fromB (firstFlag kind) (lastFlag kind) flag = z := ⟨_, rfl⟩
          have C3 := Lib.hid (isFrom_k flag (firstFlag kind) (lastFlag kind) z h3)
          have HR : Hid (errF ⟨kind, robot, seq, cell, flag⟩ = if z then 0 else 19) := Lib.hid (by
            refine (K.out _ ?_).symm
            have e : okF ⟨kind, robot, seq, cell, flag⟩ = z := by
              unfold okF
              simp only [h1, h2, h3, hs1, Bool.true_and]
            cases z
            · exact .inr ⟨e, rfl⟩
            · exact .inl ⟨e, rfl⟩)
          clear h1 hs1 h2 h3 K
          rcases hk with rfl | rfl | rfl
          all_goals
            simp only [lastCell, firstFlag, lastFlag] at C2 C3
            rcases z with _ | _
            all_goals
              go_enter Try.func49, Try.ntmps49
              go_wp2_with fail
              refine (C1.out _).mono ?_; rintro e w' ⟨rfl, rfl⟩
              go_wp2_with fail
              refine (C2.out _).mono ?_; rintro e w' ⟨rfl, rfl⟩
              go_wp2_with fail
              refine (C3.out _).mono ?_; rintro e w' ⟨rfl, rfl⟩
              go_wp2_with fail
              go_ret
              exact ⟨by rw [HR.out]; rfl, HW.out⟩
  · have HR : Hid (errF ⟨kind, robot, seq, cell, flag⟩ = 22) := Lib.hid (by unfold errF; rw [if_neg hk])
    have k1 : (kind == 1) = false := by rw [beq_eq_false_iff_ne]; omega
    have k2 : (kind == 2) = false := by rw [beq_eq_false_iff_ne]; omega
    have k3 : (kind == 3) = false := by rw [beq_eq_false_iff_ne]; omega
    clear hk
    go_enter Try.func49, Try.ntmps49
    go_wp2
    go_ret
    exact ⟨by rw [HR.out]; rfl, HW.out⟩
end Go.Proofs.Ytmdnkpiihhaoeaa

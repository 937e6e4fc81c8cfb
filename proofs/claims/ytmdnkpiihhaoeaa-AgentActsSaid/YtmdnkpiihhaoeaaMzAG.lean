/- Joined texts. -/
import Derived.Test.YtmdnkpiihhaoeaaMzAF
import Derived.Test.YtmdnkpiihhaoeaaMzAB
import Derived.DeepKeys2
import Derived.LaidLaws
import Derived.ChangeArms
import Derived.Lib.LaidTab
import Derived.Laws.CopyOwn
import Derived.WalkKit
import Derived.Test.YtmdnkpiihhaoeaaChecked
import Derived.Test.YtmdnkpiihhaoeaaMzAD
import Derived.Test.YtmdnkpiihhaoeaaMzAA
import Derived.Deep.OwnRows
namespace Go.Proofs.Ytmdnkpiihhaoeaa
open Go Go.RowKit Fl

/-- What follows a cell that exists. -/
def NextIs (N : NetD) (c : Int) (xs : List Int) : Prop :=
  (∃ b : Nat, ∃ _ : b < N.blocks.length, ∃ hb' : b < N.next.length, c = b ∧ xs = N.next[b] ++ spurBases N.spurs b) ∨ ∃ k : Nat, ∃ hk : k < N.spurs.length, N.spurs[k].base ≤ c ∧ c < N.spurs[k].base + N.spurs[k].slots ∧ xs = [if c + 1 < N.spurs[k].base + N.spurs[k].slots then c + 1 else N.spurs[k].out]
theorem NetOk.nextIs {N : NetD} (hok : NetOk N) {c : Int} (hc : inN N c) : ∃ xs, NextIs N c xs ∧ xs.length ≤ 24 ∧ ∀ x ∈ xs, inN N x := by
  have hge := hok.cells_ge
  by_cases h : c < N.blocks.length
  · obtain ⟨b, rfl⟩ := Int.eq_ofNat_of_zero_le hc.1
    have hb : b < N.blocks.length := by omega
    have hb' : b < N.next.length := by rw [hok.lanes]; exact hb
    refine ⟨_, .inl ⟨b, hb, hb', rfl, rfl⟩, ?_, fun x hx => ?_⟩
    · have h1 := hok.outs _ (List.getElem_mem hb')
      have h2 := spurBases_few N.spurs (b : Int)
      have h3 := hok.spurs6
      rw [List.length_append]
      omega
    · rcases List.mem_append.1 hx with h1 | h1
      · have h2 := validG_row hok.graph hb' x h1
        have h3 := hok.lanes
        exact ⟨by omega, by omega⟩
      · unfold spurBases at h1
        obtain ⟨s, hs, rfl⟩ := List.mem_map.1 h1
        have hs2 := (List.mem_filter.1 hs).1
        obtain ⟨k, hk, rfl⟩ := List.mem_iff_getElem.1 hs2
        have h2 := hok.cell_lt hk
        have h3 := hok.base_ge hk
        have h4 := (hok.spurOk _ (List.getElem_mem hk)).slots
        exact ⟨by omega, by omega⟩
  · obtain ⟨k, hk, h1, h2⟩ := hok.inSpur (c := c) (by omega) hc.2
    refine ⟨_, .inr ⟨k, hk, h1, h2, rfl⟩, by simp, fun x hx => ?_⟩
    obtain rfl := List.mem_singleton.1 hx
    have h3 := hok.cell_lt hk
    have h4 := (hok.spurOk _ (List.getElem_mem hk)).out
    split
    · exact ⟨by have := hc.1; omega, by omega⟩
    · exact ⟨by omega, by omega⟩
theorem devNextIs_c (Ab An As Ar : Option Addr) (cb cn cs cr : Nat) (N : NetD) (c : Int) (xs : List Int) (w : World) (hN : NetAt w Ab An As Ar N) (hok : NetOk N) (hcr : N.robots.length ≤ cr) (h : NextIs N c xs) :
    Calls Try.prog 12 #[.agg #[.slice Ab N.blocks.length cb, .slice An N.next.length cn, .slice As N.spurs.length cs, .slice Ar N.robots.length cr, Iv N.queue, Iv N.aging, Iv N.detours, Iv N.patience], .int .i64 c] w (NextPost2 w xs) := by
  rcases h with ⟨b, hb, hb', rfl, rfl⟩ | ⟨k, hk, h1, h2, rfl⟩
  · exact nextB_c Ab An As Ar cb cn cs cr b N w hN hok hcr hb hb'
  · exact nextS_c Ab An As Ar cb cn cs cr k N c w hN hok hcr hk h1 h2
end Go.Proofs.Ytmdnkpiihhaoeaa
namespace Go.Proofs.Ytmdnkpiihhaoeaa
open Go Go.RowKit Fl

/-- The slots of the open depots among the first k spurs. -/
def openSum (s : List Bool) (l : List SpurD) (k : Nat) : Int := ((l.take k).map (fun x => if x.depot && openS s x then x.slots else 0)).sum
theorem openSum_succ {s : List Bool} {l : List SpurD} {k : Nat} (h : k < l.length) : openSum s l (k + 1) = openSum s l k + if l[k].depot && openS s l[k] then l[k].slots else 0 := by
  unfold openSum
  rw [List.take_succ_eq_append_getElem h, List.map_append, List.sum_append]
  simp only [List.map_cons, List.map_nil, List.sum_cons, List.sum_nil, Int.add_zero]
/-- A spur's cells are among n ones. -/
structure SpurIn (n : Nat) (x : SpurD) : Prop where
  inn : 0 ≤ x.inn ∧ x.inn < n
  out : 0 ≤ x.out ∧ x.out < n
  base : 0 ≤ x.base ∧ 0 ≤ x.slots ∧ x.base + x.slots ≤ n
  four : x.slots ≤ 4
set_option maxRecDepth 100000 in
set_option maxHeartbeats 4000000 in
theorem slots_c (Ab An As Ar B : Option Addr) (cb cn cs cr d : Nat) (N : NetD) (s : List Bool) (w : World) (hN : NetAt w Ab An As Ar N) (hs : Holds w B (s.map Bo)) (h6 : N.spurs.length ≤ 6) (hsl : s.length ≤ 1000) (hin : ∀ x ∈ N.spurs, SpurIn s.length x) :
    Calls Try.prog 66 #[.agg #[.slice Ab N.blocks.length cb, .slice An N.next.length cn, .slice As N.spurs.length cs, .slice Ar N.robots.length cr, Iv N.queue, Iv N.aging, Iv N.detours, Iv N.patience], .slice B s.length d] w fun e w' => e = .returned (.int .i64 (openSum s N.spurs N.spurs.length)) ∧ Below w.heap.size w w' := by
  have HN := Lib.hid hN
  have HS := Lib.hid hs
  have HIn := Lib.hid hin
  have HC := Lib.hid (fun W k (hW : Below w.heap.size w W) (hk : k < N.spurs.length) => open_c Ab An As Ar B cb cn cs cr d N s k W (hN.keep hW) (hs.keep hW) hk hsl (hin _ (List.getElem_mem hk)).inn (hin _ (List.getElem_mem hk)).out (hin _ (List.getElem_mem hk)).base)
  have hB0 : Below w.heap.size w (w.alloc (.cells (netCells Ab An As Ar cb cn cs cr N) 29)) := (Below.refl _ _).alloc (Nat.le_refl _) _
  have HX := Lib.hid (boxAt_of (heap_alloc_new w (.cells (netCells Ab An As Ar cb cn cs cr N) 29)))
  have hsz0 : w.heap.size < (w.alloc (.cells (netCells Ab An As Ar cb cn cs cr N) 29)).heap.size := by simp
  have HR : Hid (∃ r, r = openSum s N.spurs N.spurs.length) := Lib.hid ⟨_, rfl⟩
  clear hN hs hin
  go_enter Try.func66, Try.ntmps66
  go_wp2
  generalize w.alloc (.cells (netCells Ab An As Ar cb cn cs cr N) 29) = w0 at *
  go_loopw [5, 6] (fun c i wr => ∃ (k : Nat) (z : Int), i = .int .i64 k ∧ k ≤ N.spurs.length ∧ c = .int .i64 z ∧ Hid (z = openSum s N.spurs k) ∧ 0 ≤ z ∧ z ≤ 4 * k ∧ Below w0.heap.size w0 wr) (fun _ i _ => N.spurs.length - (intOf i).toNat)
  case atStart => exact ⟨0, 0, rfl, Nat.zero_le _, rfl, Lib.hid (by simp [openSum]), by omega, by omega, Below.refl _ _⟩
  case round =>
    obtain ⟨k, z, rfl, hk, rfl, HZ, hz0, hz1, hb⟩ := hrel
    have hbw : Below w.heap.size w wr := hB0.trans (hb.mono (Nat.le_of_lt hsz0))
    obtain ⟨x0, x1, x2, x3, x4, x5, x6, x7⟩ := HX.out.keep hsz0 hb
    by_cases hlt : k < N.spurs.length
    · have HCk := Lib.hid (HC.out wr k hbw hlt)
      have HZ2 := Lib.hid (openSum_succ (s := s) hlt)
      have hsl4 := HIn.out _ (List.getElem_mem hlt)
      obtain ⟨b, o, rfl, hbw2, hs⟩ := HN.out.spurs.spur hlt
      have hs1 := hs.keep hbw2 hbw
      have c1 := hs1.c1
      have c4 := hs1.c4
      have HK : Hid (∀ W, Below wr.heap.size wr W → W.cell? ⟨b, o + k * 6 + 4, none⟩ = some (Iv N.spurs[k].slots)) := Lib.hid (fun W hW => (hW.cell (p := ⟨b, o + k * 6 + 4, none⟩) (by have := hbw.size; show b < _; omega)).trans c4)
      clear hs hs1
      obtain ⟨s1, s2⟩ : 0 ≤ N.spurs[k].slots ∧ N.spurs[k].slots ≤ 4 := ⟨hsl4.base.2.1, hsl4.four⟩
      clear hsl4
      generalize hop : openS s N.spurs[k] = op at *
      generalize N.spurs[k] = x at *
      obtain ⟨nm, dp, i, ot, sl, bs⟩ := x
      simp only at c1 c4 HZ2 HK s1 s2
      have hX2 := x2
      clear hop
      rcases dp with _ | _
      · have HZ3 : Hid (z = openSum s N.spurs (k + 1)) := Lib.hid (by rw [HZ2.out, HZ.out]; simp)
        clear HZ2 HZ HCk
        go_wp2
        go_roundw
        case rel => exact ⟨k + 1, z, by go_num, by omega, rfl, HZ3, by omega, by omega, hb⟩
        case measure => simp [intOf]; omega
      · go_wp2_with fail
        refine HCk.out.mono ?_
        rintro e w3 ⟨rfl, hb3⟩
        have hb13 : Below w0.heap.size w0 w3 := hb.trans (hb3.mono hb.size)
        have x2' := (HX.out.keep hsz0 hb13).c2
        have c4' := HK.out w3 hb3
        clear hb3 HK x0 x1 x2 x3 x4 x5 x6 x7 c1 c4 hX2
        rcases op with _ | _
        · have HZ3 : Hid (z = openSum s N.spurs (k + 1)) := Lib.hid (by rw [HZ2.out, HZ.out]; simp)
          clear HZ2 HZ HCk
          go_wp2
          go_roundw
          case rel => exact ⟨k + 1, z, by go_num, by omega, rfl, HZ3, by omega, by omega, hb13⟩
          case measure => simp [intOf]; omega
        · have HZ3 : Hid (z + sl = openSum s N.spurs (k + 1)) := Lib.hid (by rw [HZ2.out, HZ.out]; simp)
          clear HZ2 HZ HCk
          go_wp2
          go_roundw
          case rel => exact ⟨k + 1, z + sl, by go_num, by omega, rfl, HZ3, by omega, by omega, hb13⟩
          case measure => simp [intOf]; omega
    · obtain rfl : k = N.spurs.length := by omega
      go_wp2
      go_ret
      exact ⟨gr_int HZ.out, hbw⟩
end Go.Proofs.Ytmdnkpiihhaoeaa
namespace Go.Proofs.Ytmdnkpiihhaoeaa
open Go

mutual
/-- The cells of a datum of literals. -/
def flatD {H : Type} : DataW H → List Value
  | .lit l => [l.toCell]
  | .agg ds => flatDs ds
  | _ => []
def flatDs {H : Type} : List (DataW H) → List Value
  | [] => []
  | d :: ds => flatD d ++ flatDs ds
end
theorem flatDs_mapM {H α β : Type} {f : α → Option (DataW H × β)} {ch : α → List Value} : ∀ {L : List α} {xs : List (DataW H × β)}, L.mapM f = some xs → (∀ x ∈ L, ∀ y, f x = some y → ch x = flatD y.1) → (L.map ch).flatten = flatDs (xs.map (·.1))
  | [], xs, h, _ => by
    simp at h
    subst h
    rfl
  | x :: L, xs, h, hall => by
    rw [List.mapM_cons] at h
    simp only [bind, Option.bind_eq_some_iff, pure, Option.some.injEq] at h
    obtain ⟨y, hy, ys, hys, rfl⟩ := h
    rw [List.map_cons, List.flatten_cons, List.map_cons, flatDs, hall x (by simp) y hy, flatDs_mapM hys (fun z hz => hall z (by simp [hz]))]
theorem flat_of_trod {H : Type} {P : Program} {enc : TypeId × Value → H} {w : World} {base : Nat} {sp : Nat → Bool} {held : Bool} : ∀ (m : Nat) (t : TypeId), P.tiled m t = true → ∀ (fuel : Nat) (cs : List Value) (d : DataW H) (p : List MemPlace), DataW.trod enc P w base sp held fuel t cs = some (d, p) → cs = flatD d
  | 0, _, h => by simp [Program.tiled] at h
  | m + 1, t, ht => by
    intro fuel cs d p h
    unfold Program.tiled at ht
    cases hu : P.underlying t with
    | none => simp [hu] at ht
    | some kd =>
      cases kd <;> simp only [hu] at ht <;> try (cases ht; done)
      case bool =>
        obtain ⟨b, rfl, hx⟩ := DataW.trod_bool hu h
        injection hx with hx _
        subst hx
        rfl
      case int q =>
        obtain ⟨b, rfl, hx, _⟩ := DataW.trod_int hu h
        injection hx with hx _
        subst hx
        rfl
      case string =>
        obtain ⟨b, rfl, hx, _⟩ := DataW.trod_string hu h
        injection hx with hx _
        subst hx
        simp [flatD, Lit.toCell]
      case array k e =>
        simp only [Bool.and_eq_true, beq_iff_eq] at ht
        cases fuel with
        | zero => simp [DataW.trod] at h
        | succ n =>
          unfold DataW.trod at h
          simp only [hu] at h
          split at h
          · rename_i hl
            simp only [Option.map_eq_some_iff] at h
            obtain ⟨xs, hx, he⟩ := h
            injection he with he _
            subst he
            rw [flatD, ← flatDs_mapM (ch := fun i => (cs.drop (i * P.cellsOf e)).take (P.cellsOf e)) hx (fun i _ y hy => flat_of_trod m e ht.2 n _ y.1 y.2 hy), chunks_flatten _ k cs (by rw [hl, ht.1])]
          · cases h
      case struct fs =>
        simp only [Bool.and_eq_true, beq_iff_eq] at ht
        cases fuel with
        | zero => simp [DataW.trod] at h
        | succ n =>
          unfold DataW.trod at h
          simp only [hu] at h
          split at h
          · rename_i hl
            simp only [Option.map_eq_some_iff] at h
            obtain ⟨xs, hx, he⟩ := h
            injection he with he _
            subst he
            rw [flatD, ← flatDs_mapM (ch := fun f => (cs.drop f.offset).take (P.cellsOf f.type)) hx (fun f hf y hy => flat_of_trod m f.type (Array.all_eq_true'.1 ht.2 f (by simpa using hf)) n _ y.1 y.2 hy), fields_flatten cs _ 0 _ ht.1 hl]
            rfl
          · cases h
/-- What a listed variable reads. -/
theorem laid_reads {P : Program} {w : World} : ∀ {l : List (String × DataW Unit)} {ps : List MemPlace}, DataW.LaidVars P w l ps → ∀ n d, (n, d) ∈ l → ∃ g t cs fuel p, P.globalNamed n = some g ∧ (P.globals[g]?).map (·.type) = some t ∧ w.var? P n = some cs ∧ DataW.trod (fun _ => ()) P w 0 (fun _ => true) false fuel t cs.toList = some (d, p)
  | [], _, _, n, d, hm => by simp at hm
  | _ :: _, _, h, n, d, hm => by
    obtain ⟨g, t, cs, fuel, p, q, h1, h2, h3, h4, h5, _⟩ := h
    rcases List.mem_cons.1 hm with e | hm
    · subst e
      exact ⟨g, t, cs, fuel, p, h1, h2, h3, h4⟩
    · exact laid_reads h5 n d hm
/-- The variable is a row that holds the cells of its datum. -/
theorem laid_row {P : Program} {w : World} {l : List (String × DataW Unit)} (h : laidMet P l w) {n : String} {d : DataW Unit} (hm : (n, d) ∈ l) {g t m : Nat} (hg : P.globalNamed n = some g) (ht : (P.globals[g]?).map (·.type) = some t) (htl : P.tiled m t = true) :
    ∃ ty fr, w.heap[g]? = some (.cells (flatD d).toArray ty fr) := by
  obtain ⟨ps, hl, _⟩ := h
  obtain ⟨g', t', cs, fuel, p, hg', ht', hv, hd⟩ := laid_reads hl n d hm
  obtain rfl := Option.some.inj (hg.symm.trans hg')
  obtain rfl := Option.some.inj (ht.symm.trans ht')
  have e := flat_of_trod m t htl fuel cs.toList d p hd
  unfold World.var? at hv
  rw [hg, Option.bind_some] at hv
  split at hv
  · rename_i c ty fr hh
    injection hv with hv
    subst hv
    exact ⟨ty, fr, by rw [hh, ← e]⟩
  · cases hv
/-- Two results, the first one in a row. -/
theorem results_cell_tmp {P : Program} {fn : Func} {p q : Tmp} {ty : TypeId} (h : fn.results = #[.cell p ty, .tmp q]) (tmps : Array Value) (w : World) (g : Nat) (t : TypeId) (cs : Array Value) (fr : Nat × Nat) (d : TypeDesc)
    (hp : tmps.getD p undef = .pointer (some ⟨g, 0, none⟩)) (hg : w.heap[g]? = some (.cells cs t fr))
    (hu : P.underlying ty = some d) (hd : (match d with | .struct _ | .array _ _ => true | _ => false) = true) (hi : (P.info? ty).map (·.size) = some cs.size) :
    (results fn tmps).run P w = .ok (.tuple #[.agg cs, tmps.getD q undef]) w := by
  have hp' : tmps[p]?.getD undef = .pointer (some ⟨g, 0, none⟩) := by simpa using hp
  simp [results, h, hp', asAddr, run_loadVar_row w g t ty cs fr d hg hu hd hi]
end Go.Proofs.Ytmdnkpiihhaoeaa
namespace Go.Proofs.Ytmdnkpiihhaoeaa
open Go Go.RowKit Fl

theorem Try.infoBoolG : (Try.prog.info? 4).map (fun i => (i.zero, i.size, i.bytes)) = some (some (.bool false), 1, 1) := by kernel_rfl
/-- n open marks. -/
def opens (n : Nat) : List Bool := List.replicate n false
def capN (g : Nat) (sl : Int) : Int := if 0 < g then min ((g : Int) - 1) sl else sl
def girN (N : NetD) : List Int := girF N.next (opens N.blocks.length)
def slotsN (N : NetD) : Int := openSum (opens (cellsN N).toNat) N.spurs N.spurs.length
/-- What Fleet returns. -/
def FleetPost (w : World) (N : NetD) (e : Ending) (w' : World) : Prop :=
  ∃ v, e = .returned (.tuple #[.agg #[Iv (girN N).length, v, Iv (slotsN N), Iv (capN (girN N).length (slotsN N))], .int .i64 0]) ∧ w'.ownsRow w.heap.size 3 1 v (girN N).length ((girN N).map Iv) ∧ Below w.heap.size w w'
theorem make_bools (n : Nat) (hn : n ≤ 1000000) (w : World) : (Instr.makeSlice 113 (.int .i64 (n : Int)) (.int .i64 (n : Int))).run Try.prog w = .ok (.slice (some ⟨w.heap.size, 0, none⟩) n n) (w.alloc (.cells (madeCells #[.bool false] n) 4)) :=
  run_make_row' 113 4 (.bool false) 1 Try.underlying113 Try.infoBoolG rfl .i64 .i64 n (by omega) (by omega) w
theorem made_bools (n : Nat) : (madeCells #[(.bool false : Value)] n).toList = (opens n).map Bo := by
  simp [madeCells, opens, Nat.mod_one, List.map_const']
theorem holds_row {w : World} {F : Nat} {cs : Array Value} {t : TypeId} {xs : List Value} (h : w.heap[F]? = some (.cells cs t (0, 0))) (hx : cs.toList = xs) : Holds w (some ⟨F, 0, none⟩) xs := by
  refine .inr ⟨F, 0, rfl, block_lt h, fun j hj => ?_⟩
  rw [cell_of_row w F _ _ _ _ h, Nat.zero_add, ← Array.getElem?_toList, hx]
  exact List.getElem?_eq_getElem hj
/-- What is known of a valid network's spurs' cells. -/
theorem NetOk.spurIn {N : NetD} (h : NetOk N) : ∀ x ∈ N.spurs, SpurIn (cellsN N).toNat x := fun x hx => by
  obtain ⟨k, hk, rfl⟩ := List.mem_iff_getElem.1 hx
  have h1 := h.spurOk _ hx
  have hb := h.bases k hk
  have hs : ∀ s ∈ N.spurs, 0 ≤ s.slots ∧ s.slots ≤ 4 := fun s hs => by have := (h.spurOk s hs).slots; omega
  have b1 := slotsK_bounds hs k (by omega)
  have b2 := slotsK_succ hk
  have mono : ∀ m, k + 1 ≤ m → m ≤ N.spurs.length → slotsK N.spurs (k + 1) ≤ slotsK N.spurs m := fun m => by
    induction m with
    | zero => intro h; omega
    | succ m ih =>
      intro h1 h2
      rcases Nat.lt_or_ge k m with h3 | h3
      · have := ih (by omega) (by omega)
        have h4 := slotsK_succ (l := N.spurs) (k := m) (by omega)
        have := (hs _ (List.getElem_mem (show m < N.spurs.length by omega))).1
        omega
      · have : m = k := by omega
        subst this; exact Int.le_refl _
  have b3 := mono N.spurs.length (by omega) (Nat.le_refl _)
  have hc : cellsN N = N.blocks.length + slotsK N.spurs N.spurs.length := rfl
  obtain ⟨⟨i0, i1⟩, ⟨o0, o1⟩, s0, s1⟩ := h1
  constructor <;> omega
theorem NetOk.few' {N : NetD} (h : NetOk N) : fewSlots N := ⟨h.few, h.spurs6, fun s hs => by have := (h.spurOk s hs).slots; omega⟩
theorem cellsN_le {N : NetD} (h : fewSlots N) : 0 ≤ cellsN N ∧ cellsN N ≤ 48 := by
  obtain ⟨h1, h2, h3⟩ := h
  have := slotsK_bounds h3 N.spurs.length (Nat.le_refl _)
  unfold cellsN
  omega
theorem openSum_bounds {s : List Bool} {l : List SpurD} (h : ∀ x ∈ l, 0 ≤ x.slots ∧ x.slots ≤ 4) : ∀ k, k ≤ l.length → 0 ≤ openSum s l k ∧ openSum s l k ≤ 4 * k
  | 0, _ => by simp [openSum]
  | k + 1, hk => by
    have ih := openSum_bounds (s := s) h k (by omega)
    have := h _ (List.getElem_mem (show k < l.length by omega))
    rw [openSum_succ (by omega)]
    split <;> omega
theorem own_other {w w' : World} {base X : Nat} {e t : TypeId} {size n : Nat} {v : Value} {xs : List Value} {cs : Array Value} {fz : Nat × Nat} (h : w.ownsRow base e size v n xs) (hX : w.heap[X]? = some (.cells cs t fz)) (ht : e ≠ t) (hw : ∀ b, b ≠ X → w'.heap[b]? = w.heap[b]?) : w'.ownsRow base e size v n xs := by
  obtain ⟨h1, hr⟩ := h
  refine ⟨h1, ?_⟩
  rcases hr with hr | ⟨g, cap, cur, hv, hgb, hh, hrest⟩
  · exact .inl hr
  · refine .inr ⟨g, cap, cur, hv, hgb, (hw g (fun e1 => ?_)).trans hh, hrest⟩
    subst e1
    rw [hh] at hX
    injection hX with hX
    injection hX with _ h2
    exact ht h2
theorem set1_at {w : World} {X i : Nat} {cs : Array Value} {v : Value} {t : TypeId} (h : w.heap[X]? = some (.cells cs t (0, 0))) : (w.setCell ⟨X, i, none⟩ v).heap[X]? = some (.cells (cs.setIfInBounds i v) t (0, 0)) := by
  rw [setCell_eq_setRow w X i cs t (0, 0) v h]
  exact setRow_heap _ _ _ _ _ _ h
theorem below_push {a b : World} (h : Below a.heap.size a b) (o : Obj) : Below a.heap.size a (b.alloc o) := h.alloc h.size o
theorem set4_at {W : World} {g : Nat} {a0 a1 a2 a3 v0 v1 v2 v3 : Value} {t : TypeId} (h : W.heap[g]? = some (.cells #[a0, a1, a2, a3] t (0, 0))) : ((((W.setCell ⟨g, 0, none⟩ v0).setCell ⟨g, 1, none⟩ v1).setCell ⟨g, 2, none⟩ v2).setCell ⟨g, 3, none⟩ v3).heap[g]? = some (.cells #[v0, v1, v2, v3] t (0, 0)) := by
  have step : ∀ (W : World) (cs : Array Value) (i : Nat) (v : Value), W.heap[g]? = some (.cells cs t (0, 0)) → (W.setCell ⟨g, i, none⟩ v).heap[g]? = some (.cells (cs.setIfInBounds i v) t (0, 0)) := fun W cs i v h => by
    rw [setCell_eq_setRow W g i cs t (0, 0) v h]
    exact setRow_heap _ _ _ _ _ _ h
  exact step _ _ 3 v3 (step _ _ 2 v2 (step _ _ 1 v1 (step _ _ 0 v0 h)))
theorem heap_set4 {W : World} {g k : Nat} {v0 v1 v2 v3 : Value} (h : k ≠ g) : ((((W.setCell ⟨g, 0, none⟩ v0).setCell ⟨g, 1, none⟩ v1).setCell ⟨g, 2, none⟩ v2).setCell ⟨g, 3, none⟩ v3).heap[k]? = W.heap[k]? := by
  rw [Below.heap_setCell _ _ _ _ h, Below.heap_setCell _ _ _ _ h, Below.heap_setCell _ _ _ _ h, Below.heap_setCell _ _ _ _ h]
theorem below_set4 {B : Nat} {a W : World} {g : Nat} {v0 v1 v2 v3 : Value} (h : Below B a W) (hg : B ≤ g) : Below B a ((((W.setCell ⟨g, 0, none⟩ v0).setCell ⟨g, 1, none⟩ v1).setCell ⟨g, 2, none⟩ v2).setCell ⟨g, 3, none⟩ v3) :=
  below_put (below_put (below_put (below_put h hg) hg) hg) hg
theorem row4_c {w : World} {X : Nat} {a b c d : Value} {t : TypeId} (h : w.heap[X]? = some (.cells #[a, b, c, d] t (0, 0))) : w.cell? ⟨X, 0, none⟩ = some a ∧ w.cell? ⟨X, 1, none⟩ = some b ∧ w.cell? ⟨X, 2, none⟩ = some c ∧ w.cell? ⟨X, 3, none⟩ = some d ∧ w.frozen? ⟨X, 0, none⟩ = false ∧ w.frozen? ⟨X, 1, none⟩ = false ∧ w.frozen? ⟨X, 2, none⟩ = false ∧ w.frozen? ⟨X, 3, none⟩ = false :=
  ⟨by rw [cell_of_row w X 0 _ _ _ h]; rfl, by rw [cell_of_row w X 1 _ _ _ h]; rfl, by rw [cell_of_row w X 2 _ _ _ h]; rfl, by rw [cell_of_row w X 3 _ _ _ h]; rfl, by simp [World.frozen?, h], by simp [World.frozen?, h], by simp [World.frozen?, h], by simp [World.frozen?, h]⟩
theorem box8 {w : World} {b : Nat} {Ab An As Ar : Option Addr} {cb cn cs cr : Nat} {N : NetD} (h : BoxAt w b Ab An As Ar cb cn cs cr N) : w.cell? ⟨b, 0, none⟩ = some (.slice Ab N.blocks.length cb) ∧ w.cell? ⟨b, 1, none⟩ = some (.slice An N.next.length cn) ∧ w.cell? ⟨b, 2, none⟩ = some (.slice As N.spurs.length cs) ∧ w.cell? ⟨b, 3, none⟩ = some (.slice Ar N.robots.length cr) ∧ w.cell? ⟨b, 4, none⟩ = some (Iv N.queue) ∧ w.cell? ⟨b, 5, none⟩ = some (Iv N.aging) ∧ w.cell? ⟨b, 6, none⟩ = some (Iv N.detours) ∧ w.cell? ⟨b, 7, none⟩ = some (Iv N.patience) :=
  ⟨h.c0, h.c1, h.c2, h.c3, h.c4, h.c5, h.c6, h.c7⟩
abbrev zeroCap : Array Value := #[.int .i64 0, .slice none 0 0, .int .i64 0, .int .i64 0]
theorem fleet_ret {W : World} {g : Nat} (cs : Array Value) (h : W.heap[g]? = some (.cells cs 91 (0, 0))) (hcs : cs.size = 4) (k : Value) (tmps : Array Value) (hp : tmps.getD 2 undef = .pointer (some ⟨g, 0, none⟩)) (hk : tmps.getD 3 undef = k) :
    (results Try.f45 tmps).run Try.prog W = .ok (.tuple #[.agg cs, k]) W := by
  subst hk
  exact results_cell_tmp rfl _ _ g 91 cs (0, 0) _ hp h Try.underlying91 rfl (by rw [hcs]; kernel_rfl)
end Go.Proofs.Ytmdnkpiihhaoeaa
namespace Go.Proofs.Ytmdnkpiihhaoeaa
open Go Go.RowKit Fl

theorem own_num {w : World} {base n g cap : Nat} {L : List Int} (h : w.ownsRow base 3 1 (.slice (some ⟨g, 0, none⟩) n cap) n (L.map Iv)) (i : Nat) (hi : i < L.length) : w.cell? ⟨g, i, none⟩ = some (.int .i64 L[i]) ∧ w.frozen? ⟨g, i, none⟩ = false :=
  own_get h (by simp [hi])
theorem own_num_set {w : World} {base n g cap : Nat} {L : List Int} (h : w.ownsRow base 3 1 (.slice (some ⟨g, 0, none⟩) n cap) n (L.map Iv)) (i : Nat) (z : Int) : (w.setCell ⟨g, i, none⟩ (.int .i64 z)).ownsRow base 3 1 (.slice (some ⟨g, 0, none⟩) n cap) n ((L.set i z).map Iv) := by
  rw [List.map_set]; exact own_put h
theorem distK_step {g : GraphD} {s : List Bool} {out : List Int} {d : Nat} (h : 1 ≤ d) : distK g s out d = distR g s (d : Int) (distK g s out (d - 1)) g.length := by
  obtain ⟨k, rfl⟩ : ∃ k, d = k + 1 := ⟨d - 1, by omega⟩
  rw [distK_succ]; rfl
theorem distV_stay {g : GraphD} {s : List Bool} {d : Int} {out : List Int} {v : Nat} (h : atB s v = true ∨ 0 ≤ out.getD v (-1)) : distV g s d out v = out := by
  unfold distV
  rw [if_pos]
  rcases h with h | h
  · rw [h]; rfl
  · rw [decide_eq_true h, Bool.or_true]
/-- The list behind the first m elements of vertex v's row. -/
def curV (r out : List Int) (d : Int) (v m : Nat) : List Int := if (r.take m).any (fun x => decide (atI out x = d - 1)) then out.set v d else out
theorem curV_zero (r out : List Int) (d : Int) (v : Nat) : curV r out d v 0 = out := rfl
theorem curV_succ {r out : List Int} {d : Int} {v m : Nat} (h : m < r.length) : curV r out d v (m + 1) = if atI out r[m] = d - 1 then out.set v d else curV r out d v m := by
  unfold curV
  rw [List.take_succ_eq_append_getElem h, List.any_append]
  by_cases e : atI out r[m] = d - 1
  · simp [e]
  · simp [e]
theorem curV_all {g : GraphD} {s : List Bool} {d : Int} {out r : List Int} {v m : Nat} (h1 : atB s v = false) (h2 : out.getD v (-1) < 0) (hr : r = rowG g v) (hm : r.length ≤ m) : curV r out d v m = distV g s d out v := by
  unfold curV distV
  rw [List.take_of_length_le hm, ← hr, h1, if_neg (c := (false || decide (0 ≤ out.getD v (-1))) = true) (by rw [Bool.false_or, decide_eq_true_eq]; omega)]
theorem curV_length (r out : List Int) (d : Int) (v m : Nat) : (curV r out d v m).length = out.length := by unfold curV; split <;> simp
theorem curV_get {r out : List Int} {d : Int} {v m u : Nat} (h : u ≠ v) : (curV r out d v m)[u]? = out[u]? := by
  unfold curV
  split
  · rw [List.getElem?_set, if_neg (fun e => h e.symm)]
  · rfl
/-- A list of k times -1 and any further numbers. -/
def negs (L : List Int) (k : Nat) : Prop := ∀ j, j < k → L[j]? = some (-1)
theorem negs_all {L : List Int} (h : negs L L.length) : L = List.replicate L.length (-1) := by
  apply List.ext_getElem (by simp)
  intro i h1 h2
  have := h i h1
  rw [List.getElem?_eq_getElem h1] at this
  simp at this
  simpa using this
set_option maxRecDepth 100000 in
set_option maxHeartbeats 4000000 in
theorem dist_c (A B : Option Addr) (c d : Nat) (g : GraphD) (s : List Bool) (goal : Nat) (w : World) (hh : RowsAt w A g) (hs : Holds w B (s.map Bo)) (hg : validG g = true) (hsl : s.length = g.length) (hgoal : goal < g.length) :
    Calls Try.prog 87 #[.slice A g.length c, .slice B s.length d, .int .i64 goal] w fun e w' => ∃ v, e = .returned v ∧ w'.ownsRow w.heap.size 3 1 v g.length ((distF g s goal).map Iv) ∧ Below w.heap.size w w' := by
  have HH := Lib.hid hh
  have HS := Lib.hid hs
  have HG := Lib.hid hg
  have hl24 := validG_len hg
  have HR := Lib.hid (validG_short hg)
  have HSL := Lib.hid hsl
  have hsl2 : goal < s.length := by omega
  clear hh hs hg hsl
  go_enter Try.func87, Try.ntmps87
  go_wp2_with (refine make_any _ rfl _ _ 25 3 (.int .i64 0) 8 Try.underlying25 Try.infoIntG rfl (by decide) rfl .i64 .i64 _ _ g.length rfl rfl rfl rfl (by omega) ?_)
  intro w1 own1 hb1
  have hbb1 := hb1.size
  have HO1 : Hid (w1.ownsRow w.heap.size 3 1 (.slice (some ⟨w.heap.size, 0, none⟩) g.length g.length) g.length ((List.replicate g.length (0 : Int)).map Iv)) := Lib.hid (by rw [List.map_replicate]; exact own1)
  obtain ⟨G, hG⟩ : ∃ G, G = w.heap.size := ⟨_, rfl⟩
  rw [← hG] at HO1 hb1 hbb1 ⊢
  have HGG := Lib.hid hG
  clear own1 hG
  go_wp2
  go_loopw [8] (fun v wr => ∃ (k : Nat) (L : List Int), v = .int .i64 k ∧ k ≤ g.length ∧ L.length = g.length ∧ Hid (negs L k) ∧ Hid (wr.ownsRow G 3 1 (.slice (some ⟨G, 0, none⟩) g.length g.length) g.length (L.map Iv)) ∧ Below G w wr) (fun v _ => g.length - (intOf v).toNat)
  case atStart => exact ⟨0, _, rfl, Nat.zero_le _, by simp, Lib.hid (fun j hj => by omega), HO1, hb1⟩
  case round =>
    clear HO1 hb1 hbb1
    obtain ⟨k, L, rfl, hk, hL, HN, HO, hb⟩ := hrel
    by_cases hlt : k < g.length
    · obtain ⟨hc1, hc2⟩ := own_num HO.out k (by omega)
      go_wp2
      go_roundw
      case rel => exact ⟨k + 1, L.set k (-1), by go_num, by omega, by simpa using hL, Lib.hid (fun j hj => by
        rw [List.getElem?_set]
        by_cases e : k = j
        · subst e; simp; omega
        · rw [if_neg e]; exact HN.out j (by omega)), Lib.hid (own_num_set HO.out k (-1)), below_put hb (Nat.le_refl _)⟩
      case measure => simp [intOf]; omega
    · obtain ⟨bs, os, rfl, hsc⟩ := HS.out.bo hsl2
      have hbs : bs < w.heap.size := World.block_lt_of_cell? _ _ hsc
      have hscr : wr.cell? ⟨bs, os + goal, none⟩ = some (.bool s[goal]) := (hb.cell (p := ⟨bs, os + goal, none⟩) (by have := HGG.out; show bs < G; omega)).trans hsc
      have HL : Hid (L = List.replicate g.length (-1)) := Lib.hid (by
        have h := negs_all (L := L) (fun j hj => HN.out j (by omega))
        rw [hL] at h; exact h)
      have hat : atB s goal = s[goal] := by unfold atB; rw [List.getD_eq_getElem?_getD, List.getElem?_eq_getElem hsl2]; rfl
      rcases hsg : s[goal] with _ | _
      · rw [hsg] at hat hscr hsc
        have HF : Hid (distF g s goal = distK g s ((List.replicate g.length (-1)).set goal 0) (g.length - 1)) := Lib.hid (by unfold distF; rw [hat]; rfl)
        obtain ⟨hc1, hc2⟩ := own_num HO.out goal (by omega)
        have HO2 : Hid ((wr.setCell ⟨G, goal, none⟩ (.int .i64 0)).ownsRow G 3 1 (.slice (some ⟨G, 0, none⟩) g.length g.length) g.length ((distK g s ((List.replicate g.length (-1)).set goal 0) (1 - 1)).map Iv)) := Lib.hid (by rw [← HL.out]; exact own_num_set HO.out goal 0)
        have hb2 := below_put (i := goal) (v := .int .i64 0) hb (Nat.le_refl _)
        clear hat hsg hsc HN
        go_wp2
        clear hscr hc1 hc2
        have HIN := Lib.hid (show ∀ k, (distK g s ((List.replicate g.length (-1)).set goal 0) k).length = g.length from fun k => by rw [distK_length]; simp)
        generalize (List.replicate g.length (-1)).set goal 0 = init at *
        go_loopw [9] (fun v wr => ∃ (dd : Nat), v = .int .i64 dd ∧ 1 ≤ dd ∧ dd ≤ g.length ∧ Hid (wr.ownsRow G 3 1 (.slice (some ⟨G, 0, none⟩) g.length g.length) g.length ((distK g s init (dd - 1)).map Iv)) ∧ Below G w wr) (fun v _ => g.length - (intOf v).toNat)
        case atStart => exact ⟨1, rfl, by omega, by omega, HO2, hb2⟩
        case round =>
          clear HO2 hb2 hb HO
          obtain ⟨dd, rfl, hd1, hdn, HO, hb⟩ := hrel
          by_cases hdlt : dd < g.length
          · have HSt := Lib.hid (distK_step (g := g) (s := s) (out := init) hd1)
            have hol := HIN.out (dd - 1)
            generalize distK g s init (dd - 1) = out0 at *
            go_wp2
            go_loopw [10] (fun v wr => ∃ (u : Nat), v = .int .i64 u ∧ u ≤ g.length ∧ Hid (wr.ownsRow G 3 1 (.slice (some ⟨G, 0, none⟩) g.length g.length) g.length ((distR g s dd out0 u).map Iv)) ∧ Below G w wr) (fun v _ => g.length - (intOf v).toNat)
            case atStart => exact ⟨0, rfl, Nat.zero_le _, HO, hb⟩
            case round =>
              clear HO hb
              obtain ⟨u, rfl, hu, HO, hb⟩ := hrel
              by_cases hult : u < g.length
              · have hsu : u < s.length := by have := HSL.out; omega
                obtain ⟨bs, os, hBeq, hsc⟩ := HS.out.bo hsu
                injection hBeq with hBeq
                injection hBeq with hB1 hB2
                subst hB1 hB2
                have hbs : bs < w.heap.size := World.block_lt_of_cell? _ _ hsc
                have hscr : wr.cell? ⟨bs, os + u, none⟩ = some (.bool s[u]) := (hb.cell (p := ⟨bs, os + u, none⟩) (by have := HGG.out; show bs < G; omega)).trans hsc
                have hat : atB s u = s[u] := by unfold atB; rw [List.getD_eq_getElem?_getD, List.getElem?_eq_getElem hsu]; rfl
                have HSR := Lib.hid (distR_succ g s dd out0 u)
                have hrl := distR_length g s dd out0 u
                generalize distR g s dd out0 u = out at *
                have hou : u < out.length := by omega
                obtain ⟨hc1, hc2⟩ := own_num HO.out u hou
                have hgd : out.getD u (-1) = out[u] := by rw [List.getD_eq_getElem?_getD, List.getElem?_eq_getElem hou]; rfl
                clear hsc
                by_cases hstay : s[u] = true ∨ 0 ≤ out[u]
                · have HE : Hid (distR g s dd out0 (u + 1) = out) := Lib.hid (by rw [HSR.out, distV_stay (by rw [hat, hgd]; exact hstay)])
                  have hcase : s[u] = true ∨ s[u] = false ∧ decide (0 ≤ out[u]) = true := by
                    rcases hstay with h | h
                    · exact .inl h
                    · rcases hh : s[u] with _ | _
                      · exact .inr ⟨rfl, by simpa using h⟩
                      · exact .inl rfl
                  clear hat hgd hstay HSR
                  generalize s[u] = su at *
                  generalize out[u] = ou at *
                  rcases hcase with rfl | ⟨rfl, hge⟩
                  all_goals
                    go_wp2
                    go_roundw
                    case rel => exact ⟨u + 1, by go_num, by omega, Lib.hid (by rw [HE.out]; exact HO.out), hb⟩
                    case measure => simp [intOf]; omega
                · have hsf : s[u] = false := by rcases hh : s[u] with _ | _; rfl; exact absurd (.inl hh) hstay
                  have hneg : out[u] < 0 := by rcases Int.lt_or_le out[u] 0 with h | h; exact h; exact absurd (.inr h) hstay
                  have hdec : decide (0 ≤ out[u]) = false := by simp; omega
                  rw [hsf] at hscr hat
                  rw [← hgd] at hneg
                  have HCA := Lib.hid (fun (r : List Int) (m : Nat) (hr : r = rowG g u) (hm : r.length ≤ m) => curV_all (d := dd) hat hneg hr hm)
                  obtain ⟨bg, og, A1, c1, rfl, e1, h1⟩ := HH.out.one hult
                  have hbg : bg < w.heap.size := World.block_lt_of_cell? _ _ e1
                  have e1r : ∀ W, Below G w W → W.cell? ⟨bg, og + u, none⟩ = some (.slice A1 g[u].length c1) := fun W hW => (hW.cell (p := ⟨bg, og + u, none⟩) (by have := HGG.out; show bg < G; omega)).trans e1
                  have hrow : g[u] = rowG g u := by unfold rowG; rw [List.getD_eq_getElem?_getD, List.getElem?_eq_getElem hult]; rfl
                  have HRow := Lib.hid hrow
                  have hrl24 := HR.out _ (List.getElem_mem hult)
                  have HXX := Lib.hid (validG_row HG.out hult)
                  have H1 := Lib.hid h1
                  have HE1 := Lib.hid e1r
                  clear hat hneg hgd hsf hstay hrow h1 e1 e1r
                  generalize out[u] = ou at *
                  generalize g[u] = r at *
                  go_wp2
                  go_loopw [11] (fun v wr => ∃ (m : Nat), v = .int .i64 m ∧ m ≤ r.length ∧ Hid (wr.ownsRow G 3 1 (.slice (some ⟨G, 0, none⟩) g.length g.length) g.length ((curV r out dd u m).map Iv)) ∧ Below G w wr) (fun v _ => r.length - (intOf v).toNat)
                  case atStart => exact ⟨0, rfl, Nat.zero_le _, HO, hb⟩
                  case round =>
                    clear HO hb hscr hc1 hc2 hdec
                    obtain ⟨m, rfl, hm, HO, hb⟩ := hrel
                    have e1 := HE1.out wr hb
                    by_cases hmlt : m < r.length
                    · obtain ⟨br, or_, rfl, e2⟩ := H1.out.iv hmlt
                      have hbr : br < w.heap.size := World.block_lt_of_cell? _ _ e2
                      have e2r : wr.cell? ⟨br, or_ + m, none⟩ = some (.int .i64 r[m]) := (hb.cell (p := ⟨br, or_ + m, none⟩) (by have := HGG.out; show br < G; omega)).trans e2
                      obtain ⟨x0, x1, x2⟩ := HXX.out r[m] (List.getElem_mem hmlt)
                      have HCS := Lib.hid (curV_succ (out := out) (d := dd) (v := u) hmlt)
                      clear e2
                      generalize r[m] = x at *
                      obtain ⟨y, rfl⟩ := Int.eq_ofNat_of_zero_le x0
                      have hyn : y < out.length := by omega
                      have hyu : y ≠ u := by omega
                      have hget := curV_get (r := r) (out := out) (d := dd) (m := m) hyu
                      rw [List.getElem?_eq_getElem hyn] at hget
                      obtain ⟨hc1, _⟩ := own_get HO.out (i := y) (u := .int .i64 out[y]) (by rw [List.getElem?_map, hget]; rfl)
                      have hcl := curV_length r out dd u m
                      obtain ⟨hc3, hc4⟩ := own_num HO.out u (by omega)
                      have hat2 : atI out (y : Int) = out[y] := by unfold atI; rw [Int.toNat_natCast, List.getD_eq_getElem?_getD, List.getElem?_eq_getElem hyn]; rfl
                      rw [hat2] at HCS
                      clear x0 x1 x2 hat2 hget
                      have hyn' : (y : Int) < g.length := by omega
                      by_cases heq : out[y] = (dd : Int) - 1
                      · have hbq : (out[y] == (dd : Int) - 1) = true := by simpa using heq
                        rw [if_pos heq] at HCS
                        have HSet : Hid (curV r out dd u (m + 1) = (curV r out dd u m).set u dd) := Lib.hid (by
                          rw [HCS.out]
                          unfold curV
                          split
                          · rw [List.set_set]
                          · rfl)
                        clear heq HCS
                        generalize out[y] = oy at *
                        generalize (curV r out dd u m)[u] = cu at *
                        go_wp2
                        go_roundw
                        case rel => exact ⟨m + 1, by go_num, by omega, Lib.hid (by rw [HSet.out]; exact own_num_set HO.out u dd), below_put hb (Nat.le_refl _)⟩
                        case measure => simp [intOf]; omega
                      · have hbq : (out[y] == (dd : Int) - 1) = false := by simpa using heq
                        rw [if_neg heq] at HCS
                        clear heq
                        generalize out[y] = oy at *
                        go_wp2
                        go_roundw
                        case rel => exact ⟨m + 1, by go_num, by omega, Lib.hid (by rw [HCS.out]; exact HO.out), hb⟩
                        case measure => simp [intOf]; omega
                    · have HE : Hid (distR g s dd out0 (u + 1) = curV r out dd u m) := Lib.hid (by rw [HSR.out, HCA.out r m HRow.out (by omega)])
                      go_wp2
                      go_roundw
                      case rel => exact ⟨u + 1, by go_num, by omega, Lib.hid (by rw [HE.out]; exact HO.out), hb⟩
                      case measure => simp [intOf]; omega
              · have HE : Hid (distR g s dd out0 u = distK g s init dd) := Lib.hid (by rw [HSt.out, show u = g.length by omega])
                go_wp2
                go_roundw
                case rel => exact ⟨dd + 1, by go_num, by omega, by omega, Lib.hid (by rw [Nat.add_sub_cancel, ← HE.out]; exact HO.out), hb⟩
                case measure => simp [intOf]; omega
          · have HE : Hid (distK g s init (dd - 1) = distF g s goal) := Lib.hid (by rw [HF.out, show dd = g.length by omega])
            go_wp2
            go_ret
            exact ⟨_, rfl, by rw [← HE.out, ← HGG.out]; exact HO.out, by rw [← HGG.out]; exact hb⟩
      · rw [hsg] at hat hscr hsc
        have HF : Hid (distF g s goal = L) := Lib.hid (by rw [distF_shut hat, HL.out])
        clear hat hsg hsc HN
        go_wp2
        go_ret
        exact ⟨_, rfl, by rw [HF.out, ← HGG.out]; exact HO.out, by rw [← HGG.out]; exact hb⟩
end Go.Proofs.Ytmdnkpiihhaoeaa

/- Joined texts. -/
import Derived.Test.YtgjnhefmheefbaaDoorMjD
import Derived.Test.YtgjnhefmheefbaaDoorMjA
import Derived.Test.YtgjnhefmheefbaaDoorMjC
import Derived.Deep.RegionHeld3
import Derived.Deep.AppendLies
import Derived.Deep.DrawnRows
namespace Go.Proofs.YtgjnhefmheefbaaDoor
open Go.RowKit Fl
attribute [local go_sem] bget

def rangeB (z : Int) : Bool := decide (-9999 ≤ z ∧ z ≤ 9999)
/-- The number at place k. -/
theorem Holds.int {w : World} {A : Option Addr} {zs : List Int} (h : Holds w A (zs.map I)) {k : Nat} (hk : k < zs.length) : ∃ b o, A = some ⟨b, o, none⟩ ∧ w.cell? ⟨b, o + k, none⟩ = some (.int .i64 zs[k]) := by
  obtain ⟨b, o, hA, _, hc⟩ := h.at_ (by simp; omega)
  exact ⟨b, o, hA, by rw [hc k (by simpa using hk)]; simp⟩
set_option maxRecDepth 100000 in
set_option maxHeartbeats 1000000 in
theorem inRange_c (A : Option Addr) (c : Nat) (zs : List Int) (w : World) (hh : Holds w A (zs.map I)) (hl : zs.length ≤ 1000000000000000000) :
    Calls Tryd.prog 25 #[.slice A zs.length c] w fun e w' => e = .returned (.bool (zs.all rangeB)) ∧ w = w' := by
  have HH := Lib.hid hh
  clear hh
  go_enter Tryd.func25, Tryd.ntmps25
  go_wp2
  go_loop [7] (fun i => ∃ k : Nat, k ≤ zs.length ∧ i = .int .i64 k ∧ Hid (zs.all rangeB = (zs.drop k).all rangeB)) (fun i => zs.length - (intOf i).toNat)
  case atStart => exact ⟨0, Nat.zero_le _, rfl, Lib.hid rfl⟩
  case round =>
    obtain ⟨k, hk, rfl, HA⟩ := hrel
    by_cases hlt : k < zs.length
    · obtain ⟨b, o, rfl, hc⟩ := HH.out.int hlt
      have hd := drop_all (p := rangeB) hlt
      generalize zs[k] = z at *
      by_cases h1 : z < -9999
      · have HA2 : Hid (zs.all rangeB = false) := Lib.hid (HA.out.trans (hd.trans (by rw [show rangeB z = false by unfold rangeB; simp; omega, Bool.false_and])))
        clear hd HA
        go_wp2
        go_ret
        exact ⟨ret_bool HA2.out.symm, rfl⟩
      · by_cases h2 : 9999 < z
        · have HA2 : Hid (zs.all rangeB = false) := Lib.hid (HA.out.trans (hd.trans (by rw [show rangeB z = false by unfold rangeB; simp; omega, Bool.false_and])))
          clear hd HA
          go_wp2
          go_ret
          exact ⟨ret_bool HA2.out.symm, rfl⟩
        · have HA2 := Lib.hid (HA.out.trans (hd.trans (by rw [show rangeB z = true by unfold rangeB; simp; omega, Bool.true_and])))
          clear hd HA
          go_wp2
          go_round
          case rel => exact ⟨k + 1, by omega, by go_num, HA2⟩
          case measure => simp [intOf]; omega
    · have HA2 : Hid (zs.all rangeB = true) := Lib.hid (HA.out.trans (by rw [List.drop_of_length_le (by omega)]; rfl))
      go_wp2
      go_ret
      exact ⟨ret_bool HA2.out.symm, rfl⟩
/-- What Valid reports, in its own steps. -/
def validB (d : DeclD) : Bool := decide (wordN d.word ≠ 0) && ((decide ((d.nums.length : Int) = shapeX (wordN d.word)) && (decide ((d.names.length : Int) = shapeN (wordN d.word)) || decide (wordN d.word = 2) && decide ((shapeN (wordN d.word) : Int) < d.names.length))) && (d.names.all name && d.nums.all rangeB))
set_option maxRecDepth 100000 in
set_option maxHeartbeats 4000000 in
theorem valid_c (d : DeclD) (A1 A2 : Option Addr) (c1 c2 : Nat) (w : World) (hg : Shapes w) (hn : Holds w A1 (d.names.map S)) (hx : Holds w A2 (d.nums.map I)) (hl1 : d.names.length ≤ 8796093021952) (hl2 : d.nums.length ≤ 1000000000000000000) (hs : ∀ f ∈ d.names, f.length ≤ maxLen) :
    Calls Tryd.prog 10 #[.agg #[.int .i64 d.word, .int .i64 d.line, .slice A1 d.names.length c1, .slice A2 d.nums.length c2]] w fun e w' => e = .returned (.bool (validB d)) ∧ Below w.heap.size w w' := by
  obtain ⟨dw, dl, ns, xs⟩ := d
  simp only at hn hx hl1 hl2 hs ⊢
  have hb0 : Below w.heap.size w (w.alloc (.cells #[.int .i64 dw, .int .i64 dl, .slice A1 ns.length c1, .slice A2 xs.length c2] 47)) := (Below.refl _ _).alloc (Nat.le_refl _) _
  have hD0 : (w.alloc (.cells #[.int .i64 dw, .int .i64 dl, .slice A1 ns.length c1, .slice A2 xs.length c2] 47)).heap[w.heap.size]? = some (.cells #[.int .i64 dw, .int .i64 dl, .slice A1 ns.length c1, .slice A2 xs.length c2] 47 (0, 0)) := heap_alloc_new _ _
  have HC := Lib.hid (fun W (hW : Shapes W) => shapeOfWord_c dw W hW)
  have HG := Lib.hid hg
  have HN := Lib.hid (fun W (hW : Below w.heap.size w W) => areNames_c A1 c1 ns W (hn.keep hW) hl1 hs)
  have HX := Lib.hid (fun W (hW : Below w.heap.size w W) => inRange_c A2 c2 xs W (hx.keep hW) hl2)
  have hl3 : (ns.length : Int) ≤ 8796093021952 := by omega
  clear hg hn hx hs
  go_enter Tryd.func10, Tryd.ntmps10
  go_wp2_with fail
  generalize w.alloc (.cells #[.int .i64 dw, .int .i64 dl, .slice A1 ns.length c1, .slice A2 xs.length c2] 47) = W0 at *
  refine (HC.out _ (HG.out.keep hb0)).mono ?_
  by_cases hw0 : wordN dw = 0
  · have HV : Hid (validB ⟨dw, dl, ns, xs⟩ = false) := Lib.hid (by unfold validB; simp [hw0])
    rw [hw0, show shapeV 0 = .agg #[.int .i64 0, .string ByteArray.empty, .int .i64 0, .int .i64 0, .bool false] from rfl]
    clear hw0
    rintro e W1 ⟨rfl, hb1⟩
    have HB := Lib.hid (hb0.trans (hb1.mono hb0.size))
    clear hb0 hb1 hD0 HC
    go_wp2
    go_ret
    exact ⟨ret_bool HV.out.symm, HB.out.alloc HB.out.size _⟩
  · have HV : Hid (validB ⟨dw, dl, ns, xs⟩ = ((decide ((xs.length : Int) = shapeX (wordN dw)) && (decide ((ns.length : Int) = shapeN (wordN dw)) || decide (wordN dw = 2) && decide ((shapeN (wordN dw) : Int) < ns.length))) && (ns.all name && xs.all rangeB))) := Lib.hid (by unfold validB; simp [hw0])
    rw [shapeV_pos hw0, show decide (wordN dw ≠ 0) = true by simpa using hw0]
    have HA := Lib.hid (fun W => allows_c (wordN dw) ⟨(wordText (wordN dw)).toArray⟩ (shapeN (wordN dw)) (shapeX (wordN dw)) ns.length xs.length (decide (wordN dw = 2)) W)
    rintro e W1 ⟨rfl, hb1⟩
    have hB := hb0.trans (hb1.mono hb0.size)
    have hD1 := (hb1.block _ (block_lt hD0)).trans hD0
    have d2 : ∀ ob, (W1.alloc ob).cell? ⟨w.heap.size, 2, none⟩ = some (.slice A1 ns.length c1) := fun ob => by rw [cell_of_row _ _ 2 _ _ _ ((heap_alloc_old W1 ob (block_lt hD1)).trans hD1)]; rfl
    have d3 : ∀ ob, (W1.alloc ob).cell? ⟨w.heap.size, 3, none⟩ = some (.slice A2 xs.length c2) := fun ob => by rw [cell_of_row _ _ 3 _ _ _ ((heap_alloc_old W1 ob (block_lt hD1)).trans hD1)]; rfl
    have HD1 := Lib.hid hD1
    have HB := Lib.hid hB
    clear hb0 hb1 hD0 HC hw0 hB hD1
    generalize wordText (wordN dw) = T at *
    generalize hNN : (shapeN (wordN dw) : Int) = NN at *
    generalize hXX : (shapeX (wordN dw) : Int) = XX at *
    generalize decide (wordN dw = 2) = bb at *
    generalize hal : (decide ((xs.length : Int) = XX) && (decide ((ns.length : Int) = NN) || bb && decide (NN < (ns.length : Int)))) = al at *
    clear hal
    go_wp2_with fail
    have HB1 := Lib.hid (HB.out.alloc HB.out.size (.cells #[.int .i64 (wordN dw), S T, .int .i64 NN, .int .i64 XX, .bool bb] 68))
    have HD2 := Lib.hid ((heap_alloc_old W1 (.cells #[.int .i64 (wordN dw), S T, .int .i64 NN, .int .i64 XX, .bool bb] 68) (block_lt HD1.out)).trans HD1.out)
    refine (HA.out _).mono ?_
    generalize W1.alloc (.cells #[.int .i64 (wordN dw), S T, .int .i64 NN, .int .i64 XX, .bool bb] 68) = W2 at *
    rintro e W3 ⟨rfl, hb3⟩
    have HB3 := Lib.hid (HB1.out.trans (hb3.mono HB1.out.size))
    have hD3 := (hb3.block _ (block_lt HD2.out)).trans HD2.out
    have d2 : W3.cell? ⟨w.heap.size, 2, none⟩ = some (.slice A1 ns.length c1) := by rw [cell_of_row _ _ 2 _ _ _ hD3]; rfl
    have d3 : W3.cell? ⟨w.heap.size, 3, none⟩ = some (.slice A2 xs.length c2) := by rw [cell_of_row _ _ 3 _ _ _ hD3]; rfl
    have HN3 := Lib.hid (HN.out W3 HB3.out)
    have HX3 := Lib.hid (HX.out W3 HB3.out)
    clear hD3 hb3 HB1 HD2 HD1 HA HB HN HX
    rcases al with _ | _
    · go_wp2
      go_ret
      exact ⟨ret_bool (by rw [HV.out]; rfl), HB3.out⟩
    · rcases hn : ns.all name with _ | _
      · rw [hn] at HN3 HV
        clear hn
        go_wp2_with fail
        refine HN3.out.mono ?_
        rintro e W4 ⟨rfl, rfl⟩
        go_wp2
        go_ret
        exact ⟨ret_bool (by rw [HV.out]; rfl), HB3.out⟩
      · rw [hn] at HN3 HV
        clear hn
        go_wp2_with fail
        refine HN3.out.mono ?_
        rintro e W4 ⟨rfl, rfl⟩
        go_wp2_with fail
        refine HX3.out.mono ?_
        rintro e W4 ⟨rfl, rfl⟩
        go_wp2
        go_ret
        exact ⟨ret_bool (by rw [HV.out]; rfl), HB3.out⟩
end Go.Proofs.YtgjnhefmheefbaaDoor
namespace Go.Proofs.YtgjnhefmheefbaaDoor
open Go.RowKit Fl

theorem declCells_at : ∀ (ds : List DeclD) (fvs : List (Value × Value)) (k : Nat), fvs.length = ds.length → (h : k < ds.length) → ∃ fv, fvs[k]? = some fv ∧ (declCells ds fvs)[k * 4]? = some (.int .i64 ds[k].word) ∧ (declCells ds fvs)[k * 4 + 1]? = some (.int .i64 ds[k].line) ∧ (declCells ds fvs)[k * 4 + 2]? = some fv.1 ∧ (declCells ds fvs)[k * 4 + 3]? = some fv.2
  | d :: ds, fv :: fvs, 0, _, _ => ⟨fv, rfl, rfl, rfl, rfl, rfl⟩
  | d :: ds, fv :: fvs, k + 1, hl, h => by
    obtain ⟨v, h1, h2, h3, h4, h5⟩ := declCells_at ds fvs k (by simpa using hl) (by simpa using h)
    refine ⟨v, by simpa using h1, ?_, ?_, ?_, ?_⟩
    · rw [show (k + 1) * 4 = k * 4 + 1 + 1 + 1 + 1 by omega]; simpa [declCells] using h2
    · rw [show (k + 1) * 4 + 1 = k * 4 + 1 + 1 + 1 + 1 + 1 by omega]; simpa [declCells] using h3
    · rw [show (k + 1) * 4 + 2 = k * 4 + 2 + 1 + 1 + 1 + 1 by omega]; simpa [declCells] using h4
    · rw [show (k + 1) * 4 + 3 = k * 4 + 3 + 1 + 1 + 1 + 1 by omega]; simpa [declCells] using h5
  | [], _, k, _, h => by simp at h
  | _ :: _, [], _, hl, _ => by simp at hl
/-- From address A on, the cells hold the declarations ds. -/
def DeclsAt (w : World) (A : Option Addr) (ds : List DeclD) : Prop := ds = [] ∨ ∃ b o, A = some ⟨b, o, none⟩ ∧ b < w.heap.size ∧
  ∀ k (h : k < ds.length), ∃ A1 c1 A2 c2, w.cell? ⟨b, o + k * 4, none⟩ = some (.int .i64 ds[k].word) ∧ w.cell? ⟨b, o + k * 4 + 1, none⟩ = some (.int .i64 ds[k].line) ∧
    w.cell? ⟨b, o + k * 4 + 2, none⟩ = some (.slice A1 ds[k].names.length c1) ∧ w.cell? ⟨b, o + k * 4 + 3, none⟩ = some (.slice A2 ds[k].nums.length c2) ∧ Holds w A1 (ds[k].names.map S) ∧ Holds w A2 (ds[k].nums.map I)
theorem DeclsAt.keep {w w' : World} {A : Option Addr} {ds : List DeclD} (h : DeclsAt w A ds) (hb : Below w.heap.size w w') : DeclsAt w' A ds := by
  rcases h with h | ⟨b, o, hA, hlt, hc⟩
  · exact .inl h
  · refine .inr ⟨b, o, hA, Nat.lt_of_lt_of_le hlt hb.size, fun k hk => ?_⟩
    obtain ⟨A1, c1, A2, c2, h1, h2, h3, h4, h5, h6⟩ := hc k hk
    exact ⟨A1, c1, A2, c2, (hb.cell (p := ⟨b, _, none⟩) hlt).trans h1, (hb.cell (p := ⟨b, _, none⟩) hlt).trans h2, (hb.cell (p := ⟨b, _, none⟩) hlt).trans h3, (hb.cell (p := ⟨b, _, none⟩) hlt).trans h4, h5.keep hb, h6.keep hb⟩
theorem DeclsAt.one {w : World} {A : Option Addr} {ds : List DeclD} (h : DeclsAt w A ds) {k : Nat} (hk : k < ds.length) : ∃ b o A1 c1 A2 c2, A = some ⟨b, o, none⟩ ∧ w.cell? ⟨b, o + k * 4, none⟩ = some (.int .i64 ds[k].word) ∧ w.cell? ⟨b, o + k * 4 + 1, none⟩ = some (.int .i64 ds[k].line) ∧
    w.cell? ⟨b, o + k * 4 + 2, none⟩ = some (.slice A1 ds[k].names.length c1) ∧ w.cell? ⟨b, o + k * 4 + 3, none⟩ = some (.slice A2 ds[k].nums.length c2) ∧ Holds w A1 (ds[k].names.map S) ∧ Holds w A2 (ds[k].nums.map I) := by
  rcases h with rfl | ⟨b, o, hA, _, hc⟩
  · simp at hk
  · obtain ⟨A1, c1, A2, c2, h⟩ := hc k hk
    exact ⟨b, o, A1, c1, A2, c2, hA, h⟩
theorem DeclsOwn.at_ {w : World} {base : Nat} {v : Value} {ds : List DeclD} (h : DeclsOwn w base v ds) : ∃ A c, v = .slice A ds.length c ∧ DeclsAt w A ds := by
  obtain ⟨fvs, hl, hown, hf⟩ := h
  obtain ⟨A, c, rfl⟩ := own_slice hown
  refine ⟨A, c, rfl, ?_⟩
  have hh := ownsRow_holds hown
  rcases Nat.eq_zero_or_pos ds.length with h0 | h0
  · exact .inl (List.eq_nil_of_length_eq_zero h0)
  · obtain ⟨b, o, hA, hlt, _⟩ := hh.at_ (by rw [declCells_length ds fvs hl]; omega)
    refine .inr ⟨b, o, hA, hlt, fun k hk => ?_⟩
    obtain ⟨fv, g1, g2, g3, g4, g5⟩ := declCells_at ds fvs k hl hk
    obtain ⟨n1, n2⟩ := hf k fv ds[k] g1 (List.getElem?_eq_getElem hk)
    obtain ⟨A1, c1, hv1⟩ := own_slice n1
    obtain ⟨A2, c2, hv2⟩ := own_slice n2
    rw [hv1] at g4 n1
    rw [hv2] at g5 n2
    exact ⟨A1, c1, A2, c2, hh.get hA g2, by rw [Nat.add_assoc]; exact hh.get hA g3, by rw [Nat.add_assoc]; exact hh.get hA g4, by rw [Nat.add_assoc]; exact hh.get hA g5, ownsRow_holds n1, ownsRow_holds n2⟩
/-- One line that a function's text writes out. -/
theorem raw_lit {W : World} {L F : Nat} {n : Int} {fs : List (List UInt8)} {cs : Array Value} {t1 t2 : TypeId} {f1 f2 : Nat × Nat} (hF : W.heap[F]? = some (.cells cs t1 f1)) (hcs : cs.toList = fs.map S) (hL : W.heap[L]? = some (.cells #[.int .i64 n, .slice (some ⟨F, 0, none⟩) fs.length fs.length] t2 f2)) : RawAt W (some ⟨L, 0, none⟩) [(n, fs)] := by
  refine .inr ⟨L, 0, rfl, block_lt hL, fun k hk => ?_⟩
  obtain rfl : k = 0 := by simpa using hk
  refine ⟨some ⟨F, 0, none⟩, fs.length, by rw [cell_of_row W L _ _ _ _ hL]; rfl, by rw [cell_of_row W L _ _ _ _ hL]; rfl, Nat.le_refl _, .inr ⟨F, 0, rfl, block_lt hF, fun j hj => ?_⟩⟩
  rw [cell_of_row W F _ _ _ _ hF, Nat.zero_add, ← Array.getElem?_toList, hcs]
  exact List.getElem?_eq_getElem (l := fs.map S) hj
theorem parse_lit {W : World} {L F : Nat} {n : Int} {fs : List (List UInt8)} {cs : Array Value} {t1 t2 : TypeId} {f1 f2 : Nat × Nat} (hg : Shapes W) (hF : W.heap[F]? = some (.cells cs t1 f1)) (hcs : cs.toList = fs.map S) (hL : W.heap[L]? = some (.cells #[.int .i64 n, .slice (some ⟨F, 0, none⟩) fs.length fs.length] t2 f2)) (hl : fs.length ≤ 100) (hs : ∀ f ∈ fs, f.length ≤ 100) :
    Calls Tryd.prog 12 #[.slice (some ⟨L, 0, none⟩) 1 1] W (ParsePost W (parseT [(n, fs)])) :=
  parse_c (some ⟨L, 0, none⟩) 1 [(n, fs)] W hg (raw_lit hF hcs hL) (by simp) (fun x hx => by simp at hx; subst hx; simp only; omega) (fun x hx f hf => by simp at hx; subst hx; have := hs f hf; omega)
end Go.Proofs.YtgjnhefmheefbaaDoor
namespace Go.Proofs.YtgjnhefmheefbaaDoor
open Go.RowKit Fl
attribute [local go_sem] bget

def ClonePost (w : World) (fs : List (List UInt8)) (e : Ending) (w' : World) : Prop :=
  Below w.heap.size w w' ∧ ∃ g cap, e = .returned (.slice (some ⟨g, 0, none⟩) fs.length cap) ∧ w'.ownsRow w.heap.size 9 1 (.slice (some ⟨g, 0, none⟩) fs.length cap) fs.length (fs.map S)
set_option maxRecDepth 100000 in
set_option maxHeartbeats 2000000 in
theorem cloneAllS_c (A : Option Addr) (c : Nat) (fs : List (List UInt8)) (w : World) (hh : Holds w A (fs.map S)) (hl : fs.length ≤ 8796093021952) (hs : ∀ f ∈ fs, f.length ≤ 100000) :
    Calls Tryd.prog 37 #[.slice A fs.length c] w (ClonePost w fs) := by
  have HH := Lib.hid hh
  have HS := Lib.hid hs
  clear hh hs
  obtain ⟨i0, hi, hz0, hz1, hz2⟩ := info_parts Tryd.infoString
  go_enter Tryd.func37, Tryd.ntmps37
  go_wp2_with (refine wpList_make_own _ rfl _ _ 45 rfl w.heap.size 9 i0 (.string ByteArray.empty) 1 Tryd.underlying45 hi hz0 hz1 .i64 .i64 _ fs.length rfl rfl rfl (by rw [hz2]; omega) (by unfold maxLen; omega) (Nat.le_refl _) ?_)
  intro w1 own1 hg1
  have hb1 : Below w.heap.size w w1 := (Below.refl _ _).grown hg1 (Nat.le_refl _) (fun k hk => by cases hk)
  obtain ⟨g, hgg⟩ : ∃ g, g = w.heap.size := ⟨_, rfl⟩
  rw [← hgg] at own1 ⊢
  have HG := Lib.hid hgg
  clear hg1 hgg
  go_wp2
  go_loopw [3, 11] (fun v i wr => ∃ (k : Nat), v = .slice (some ⟨g, 0, none⟩) k fs.length ∧ i = .int .i64 k ∧ k ≤ fs.length ∧ Hid (wr.ownsRow w.heap.size 9 1 (.slice (some ⟨g, 0, none⟩) k fs.length) k ((fs.take k).map S)) ∧ Below w.heap.size w wr) (fun _ i _ => fs.length - (intOf i).toNat)
  case atStart => exact ⟨0, rfl, rfl, Nat.zero_le _, Lib.hid (ownsRow_base own1 (by have := HG.out; omega)), hb1⟩
  case round =>
    clear hb1 own1
    obtain ⟨k, rfl, rfl, hk, HO, hb⟩ := hrel
    by_cases hlt : k < fs.length
    · obtain ⟨b, o, rfl, hc⟩ := (HH.out.keep hb).str hlt
      have HN := Lib.hid (clone_c fs[k] wr (HS.out _ (List.getElem_mem hlt)))
      have HT := Lib.hid (List.take_succ_eq_append_getElem hlt)
      generalize fs[k] = s at *
      go_wp2_with fail
      refine HN.out.mono ?_
      rintro e w2 ⟨rfl, hb2⟩
      have own2 := ownsRow_below HO.out hb2
      clear HO
      go_wp2_with (at_builtin; refine wpList_append_fits _ rfl _ _ 45 rfl w.heap.size 9 i0 1 Tryd.underlying45 hi hz1 g k fs.length ((fs.take k).map S) rfl (own2.alloc _) ⟨w2.heap.size, 0, none⟩ 1 1 [S s] rfl rfl ?c1 ?c2 ?c3 ?_)
      case c1 =>
        intro j u hu
        rcases j with _ | j
        · simp at hu; subst hu; simp [go_sem]
        · simp at hu
      case c2 => intro u hu; simp at hu; subst hu; rfl
      case c3 => omega
      intro w3 own3 hg3
      have hb3 : Below w.heap.size w w3 := ((hb.trans (hb2.mono hb.size)).alloc (Nat.le_trans hb.size hb2.size) _).grown hg3 (by have := hb.size; have := hb2.size; simp; omega) (fun k hk => by injection hk with hk; have := HG.out; omega)
      have HO3 : Hid (w3.ownsRow w.heap.size 9 1 (.slice (some ⟨g, 0, none⟩) (k + 1) fs.length) (k + 1) ((fs.take (k + 1)).map S)) := Lib.hid (by rw [HT.out]; simpa using own3)
      clear own2 own3 hg3 hb hb2
      go_wp2
      go_roundw
      case rel => exact ⟨k + 1, by go_num, by go_num, by omega, HO3, hb3⟩
      case measure => simp [intOf]; omega
    · have HO2 : Hid (wr.ownsRow w.heap.size 9 1 (.slice (some ⟨g, 0, none⟩) fs.length fs.length) fs.length (fs.map S)) := Lib.hid (by
        have h := HO.out
        rw [show k = fs.length by omega, List.take_length] at h
        exact h)
      obtain rfl : k = fs.length := by omega
      go_wp2
      go_ret
      exact ⟨hb, _, _, rfl, HO2.out⟩
theorem mem_dec {zs : List Int} {k : Nat} (h : k < zs.length) : (zs.take (k + 1)).map dec = (zs.take k).map dec ++ [dec zs[k]] := by
  rw [List.take_succ_eq_append_getElem h, List.map_append]; rfl
set_option maxRecDepth 100000 in
set_option maxHeartbeats 4000000 in
theorem formatFields_c (t : List UInt8) (d : DeclD) (A1 A2 : Option Addr) (c1 c2 : Nat) (w : World) (hp : Pows w) (hn : Holds w A1 (d.names.map S)) (hx : Holds w A2 (d.nums.map I)) (hl1 : d.names.length ≤ 8796093021952) (hl2 : d.nums.length ≤ 100) (hs : ∀ f ∈ d.names, f.length ≤ 100000) (hz : ∀ z ∈ d.nums, -9223372036854775808 ≤ z ∧ z ≤ 9223372036854775807) :
    Calls Tryd.prog 20 #[.string ⟨t.toArray⟩, .agg #[.int .i64 d.word, .int .i64 d.line, .slice A1 d.names.length c1, .slice A2 d.nums.length c2]] w (StrsPost w (t :: d.names ++ d.nums.map dec)) := by
  obtain ⟨dw, dl, ns, xs⟩ := d
  simp only at hn hx hl1 hl2 hs hz ⊢
  have HP := Lib.hid hp
  have HX := Lib.hid hx
  have HZ := Lib.hid hz
  have HC := Lib.hid (fun W (hW : Below w.heap.size w W) => cloneAllS_c A1 c1 ns W (hn.keep hW) (by omega) hs)
  clear hp hn hx hs hz
  obtain ⟨ti, hti, hz0, hz1, hz2⟩ := info_parts Tryd.infoString
  have two : Below w.heap.size w ((w.alloc (.cells #[.int .i64 dw, .int .i64 dl, .slice A1 ns.length c1, .slice A2 xs.length c2] 47)).alloc (.cells #[S t] 9)) := ((Below.refl _ _).alloc (Nat.le_refl _) _).alloc (by simp) _
  have hD := heap_alloc2_old w (.cells #[.int .i64 dw, .int .i64 dl, .slice A1 ns.length c1, .slice A2 xs.length c2] 47) (.cells #[S t] 9)
  have hF := heap_alloc2_new w (.cells #[.int .i64 dw, .int .i64 dl, .slice A1 ns.length c1, .slice A2 xs.length c2] 47) (.cells #[S t] 9)
  go_enter Tryd.func20, Tryd.ntmps20
  go_wp2_with fail
  generalize (w.alloc (.cells #[.int .i64 dw, .int .i64 dl, .slice A1 ns.length c1, .slice A2 xs.length c2] 47)).alloc (.cells #[S t] 9) = W0 at *
  refine (HC.out W0 two).mono ?_
  rintro e w1 ⟨hb1, g, cap, rfl, hown⟩
  have hb01 := two.trans (hb1.mono two.size)
  have hF1 := (hb1.block _ (block_lt hF)).trans hF
  have hD1 := (hb1.block _ (block_lt hD)).trans hD
  have HD1 := Lib.hid hD1
  have hO1 : w1.ownsRow w.heap.size 9 1 (.slice (some ⟨w.heap.size + 1, 0, none⟩) 1 1) 1 ([t].map S) := ⟨rfl, .inr ⟨w.heap.size + 1, 1, _, rfl, by omega, hF1, Nat.le_refl _, by unfold maxLen; omega, rfl, rfl⟩⟩
  have HO1 := Lib.hid hO1
  have HOC := Lib.hid (hown.cells (g := g) rfl)
  have HB := Lib.hid hb01
  clear two hD hF hb1 hF1 hD1 hO1 hown hb01 HC
  go_wp2_with (at_builtin; refine wpList_append_own _ rfl _ _ 45 rfl w.heap.size 9 ti (.string ByteArray.empty) 1 16 Tryd.underlying45 hti hz0 hz1 hz2 rfl (by decide) _ _ _ rfl HO1.out ⟨g, 0, none⟩ ns.length cap (ns.map S) rfl (by simp) HOC.out ?c2 ?c3 ?c4 ?c5 ?_)
  case c2 => intro u hu; obtain ⟨f, _, rfl⟩ := List.mem_map.1 hu; rfl
  case c3 => unfold maxLen; omega
  case c4 => omega
  case c5 => exact HB.out.size
  intro v2 w2 own2 hg2 _
  have base1 := own_base HO1.out
  have hb2 : Below w.heap.size w w2 := HB.out.grown hg2 HB.out.size (fun k hk => by have := base1 k hk; omega)
  have hD2 := (hg2.block _ (block_lt HD1.out) (fun e => by simp [Value.ownBlock] at e)).trans HD1.out
  have x3 : w2.cell? ⟨w.heap.size, 3, none⟩ = some (.slice A2 xs.length c2) := by rw [cell_of_row _ _ 3 _ _ _ hD2]; rfl
  have HO2 : Hid (w2.ownsRow w.heap.size 9 1 v2 (1 + ns.length) ((t :: ns).map S)) := Lib.hid (by simpa using own2)
  clear hD2 own2 hg2 base1 HB HO1 HOC HD1
  go_wp2
  go_loopw [5, 18] (fun v i wr => ∃ k : Nat, i = .int .i64 k ∧ k ≤ xs.length ∧ Hid (wr.ownsRow w.heap.size 9 1 v (1 + ns.length + k) ((t :: ns ++ (xs.take k).map dec).map S)) ∧ Below w.heap.size w wr) (fun _ i _ => xs.length - (intOf i).toNat)
  case atStart => exact ⟨0, rfl, Nat.zero_le _, Lib.hid (by simpa using HO2.out), hb2⟩
  case round =>
    clear hb2 HO2 x3
    obtain ⟨k, rfl, hk, HO, hb⟩ := hrel
    by_cases hlt : k < xs.length
    · obtain ⟨b, o, rfl, hc⟩ := (HX.out.keep hb).int hlt
      obtain ⟨hz1', hz2'⟩ := HZ.out xs[k] (List.getElem_mem hlt)
      have HI := Lib.hid (itoa_c xs[k] wr hz1' hz2' (HP.out.keep hb))
      have HT := Lib.hid (mem_dec hlt)
      obtain ⟨ys, hys⟩ : ∃ ys, ys = t :: ns ++ (xs.take k).map dec := ⟨_, rfl⟩
      rw [← hys] at HO
      have HYS := Lib.hid hys
      clear hys
      generalize xs[k] = z at *
      go_wp2_with fail
      refine HI.out.mono ?_
      rintro e w3 ⟨rfl, hb3⟩
      have own3 := ownsRow_below HO.out hb3
      have base3 := own_base own3
      have hbw : Below w.heap.size w w3 := hb.trans (hb3.mono hb.size)
      generalize dec z = s at *
      clear HI HO hb3 hb hz1' hz2' hc
      go_wp2_with (at_builtin; refine wpList_append_own _ rfl _ _ 45 rfl w.heap.size 9 ti (.string ByteArray.empty) 1 16 Tryd.underlying45 hti hz0 hz1 hz2 rfl (by decide) _ _ _ rfl (own3.alloc _) ⟨w3.heap.size, 0, none⟩ 1 1 [S s] rfl rfl ?c1 ?c2 ?c3 ?c4 ?c5 ?_)
      case c1 =>
        intro j u hu
        rcases j with _ | j
        · simp at hu; subst hu; simp [go_sem]
        · simp at hu
      case c2 => intro u hu; simp at hu; subst hu; rfl
      case c3 => unfold maxLen; omega
      case c4 => omega
      case c5 => have := hbw.size; simp; omega
      intro v4 w4 own4 hg4 _
      have hb4 : Below w.heap.size w w4 := (hbw.alloc hbw.size _).grown hg4 (by have := hbw.size; simp; omega) base3
      have HO4 : Hid (w4.ownsRow w.heap.size 9 1 v4 (1 + ns.length + (k + 1)) ((t :: ns ++ (xs.take (k + 1)).map dec).map S)) := Lib.hid (by
        have e : (t :: ns ++ ((xs.take k).map dec ++ [s])).map S = ys.map S ++ [S s] := by rw [← List.append_assoc, ← HYS.out, List.map_append]; rfl
        rw [HT.out, e]
        exact own4)
      clear own4 hg4 own3 base3 hbw
      go_wp2
      go_roundw
      case rel => exact ⟨k + 1, by go_num, by omega, HO4, hb4⟩
      case measure => simp [intOf]; omega
    · obtain rfl : k = xs.length := by omega
      go_wp2
      go_ret
      refine ⟨hb, _, rfl, ?_⟩
      have h := HO.out
      rw [List.take_length] at h
      show World.ownsRow _ _ _ _ _ (t :: (ns ++ xs.map dec)).length _
      rw [show (t :: (ns ++ xs.map dec)).length = 1 + ns.length + xs.length by simp; omega]
      exact h
end Go.Proofs.YtgjnhefmheefbaaDoor
namespace Go.Proofs.YtgjnhefmheefbaaDoor
open Go.RowKit Fl
attribute [local go_sem] bget
attribute [local go_sem ↓] Go.wp_at_zero Go.wp_at_succ

/-- Declarations that Format takes. -/
structure FmtOk (d : DeclD) : Prop where
  valid : validB d = true
  names : d.names.length ≤ 8796093021952
  nums : d.nums.length ≤ 100
  ints : ∀ z ∈ d.nums, -9223372036854775808 ≤ z ∧ z ≤ 9223372036854775807
/-- The line of a declaration. -/
def lineOf (d : DeclD) : LineI := (d.line, wordText (wordN d.word) :: d.names ++ d.nums.map dec)
theorem FmtOk.short {d : DeclD} (h : FmtOk d) : ∀ f ∈ d.names, f.length ≤ 12 := fun f hf => by
  have h1 := h.valid
  unfold validB at h1
  simp only [Bool.and_eq_true] at h1
  have := List.all_eq_true.1 h1.2.2.1 f hf
  unfold name at this
  simp at this
  omega
theorem FmtOk.word {d : DeclD} (h : FmtOk d) : wordN d.word ≠ 0 := by
  have h1 := h.valid
  unfold validB at h1
  simp only [Bool.and_eq_true, decide_eq_true_eq] at h1
  exact h1.1
/-- The cells of lines with any numbers. -/
def lineCellsI : List LineI → List Value → List Value
  | l :: ls, fv :: fvs => .int .i64 l.1 :: fv :: lineCellsI ls fvs
  | _, _ => []
theorem lineCellsI_snoc : ∀ (ls : List LineI) (fvs : List Value) (l : LineI) (fv : Value), fvs.length = ls.length → lineCellsI (ls ++ [l]) (fvs ++ [fv]) = lineCellsI ls fvs ++ [.int .i64 l.1, fv]
  | [], [], _, _, _ => rfl
  | [], _ :: _, _, _, h => by simp at h
  | _ :: _, [], _, _, h => by simp at h
  | a :: ls, b :: fvs, l, fv, h => by
    simp only [List.cons_append, lineCellsI]
    rw [lineCellsI_snoc ls fvs l fv (by simpa using h)]
theorem lineCellsI_length : ∀ (ls : List LineI) (fvs : List Value), fvs.length = ls.length → (lineCellsI ls fvs).length = ls.length * 2
  | [], [], _ => rfl
  | [], _ :: _, h => by simp at h
  | _ :: _, [], h => by simp at h
  | a :: ls, b :: fvs, h => by
    simp only [lineCellsI, List.length_cons]
    rw [lineCellsI_length ls fvs (by simpa using h)]; omega
theorem lineCellsI_at : ∀ (ls : List LineI) (fvs : List Value) (k : Nat), fvs.length = ls.length → (h : k < ls.length) → ∃ fv, fvs[k]? = some fv ∧ (lineCellsI ls fvs)[k * 2]? = some (.int .i64 ls[k].1) ∧ (lineCellsI ls fvs)[k * 2 + 1]? = some fv
  | l :: ls, fv :: fvs, 0, _, _ => ⟨fv, rfl, rfl, rfl⟩
  | l :: ls, fv :: fvs, k + 1, hl, h => by
    obtain ⟨v, h1, h2, h3⟩ := lineCellsI_at ls fvs k (by simpa using hl) (by simpa using h)
    refine ⟨v, by simpa using h1, ?_, ?_⟩
    · rw [show (k + 1) * 2 = k * 2 + 1 + 1 by omega]; simpa [lineCellsI] using h2
    · rw [show (k + 1) * 2 + 1 = k * 2 + 1 + 1 + 1 by omega]; simpa [lineCellsI] using h3
  | [], _, k, _, h => by simp at h
  | _ :: _, [], _, hl, _ => by simp at hl
/-- The slice v, a row of the call's own, holds the lines ls. -/
def LinesOwnI (w : World) (base : Nat) (v : Value) (ls : List LineI) : Prop :=
  ∃ fvs : List Value, fvs.length = ls.length ∧ w.ownsRow base 52 2 v ls.length (lineCellsI ls fvs) ∧ ∀ (i : Nat) (fv : Value) (l : LineI), fvs[i]? = some fv → ls[i]? = some l → w.ownsRow base 9 1 fv l.2.length (l.2.map S)
theorem LinesOwnI.keep {w w' : World} {base : Nat} {v : Value} {ls : List LineI} (h : LinesOwnI w base v ls) (hb : Below w.heap.size w w') : LinesOwnI w' base v ls := by
  obtain ⟨fvs, hl, hown, hf⟩ := h
  exact ⟨fvs, hl, ownsRow_below hown hb, fun i fv l h1 h2 => ownsRow_below (hf i fv l h1 h2) hb⟩
theorem LinesOwnI.raw {w : World} {base : Nat} {A : Option Addr} {c n : Nat} {ls : List LineI} (h : LinesOwnI w base (.slice A n c) ls) : RawAt w A ls := by
  obtain ⟨fvs, hl, hown, hf⟩ := h
  obtain ⟨A1, c1, hv⟩ := own_slice hown
  injection hv with hA hn hc
  subst hA hn hc
  have hh := ownsRow_holds hown
  rcases Nat.eq_zero_or_pos ls.length with h0 | h0
  · exact .inl (List.eq_nil_of_length_eq_zero h0)
  · obtain ⟨b, o, hA, hlt, _⟩ := hh.at_ (by rw [lineCellsI_length ls fvs hl]; omega)
    refine .inr ⟨b, o, hA, hlt, fun k hk => ?_⟩
    obtain ⟨fv, g1, g2, g3⟩ := lineCellsI_at ls fvs k hl hk
    have hfo := hf k fv ls[k] g1 (List.getElem?_eq_getElem hk)
    obtain ⟨A', c', rfl, hcap⟩ := own_slice_cap hfo
    exact ⟨A', c', hh.get hA g2, by rw [Nat.add_assoc]; exact hh.get hA g3, hcap, ownsRow_holds hfo⟩
theorem LinesOwnI.snoc {w w2 w3 : World} {base : Nat} {v v' fv : Value} {ls : List LineI} {l : LineI} {fvs : List Value}
    (hl : fvs.length = ls.length) (hown : w2.ownsRow base 52 2 v ls.length (lineCellsI ls fvs)) (hf : ∀ (i : Nat) (fv : Value) (l : LineI), fvs[i]? = some fv → ls[i]? = some l → w.ownsRow base 9 1 fv l.2.length (l.2.map S))
    (hb : Below w.heap.size w w2) (hn : w2.ownsRow base 9 1 fv l.2.length (l.2.map S))
    (hg : w2.grownBy w3 v.ownBlock) (h3 : w3.ownsRow base 52 2 v' (ls.length + 1) (lineCellsI ls fvs ++ [.int .i64 l.1, fv])) : LinesOwnI w3 base v' (ls ++ [l]) := by
  refine ⟨fvs ++ [fv], by simp [hl], by rw [lineCellsI_snoc ls fvs _ _ hl]; simpa using h3, fun i gv m h1 h2 => ?_⟩
  have keep : ∀ {gv : Value} {ss : List (List UInt8)}, w2.ownsRow base 9 1 gv ss.length (ss.map S) → w3.ownsRow base 9 1 gv ss.length (ss.map S) := fun h => ownsRow_apart h hown (by decide) hg
  rcases Nat.lt_or_ge i ls.length with hi | hi
  · rw [List.getElem?_append_left (by omega)] at h1 h2
    exact keep (ownsRow_below (hf i gv m h1 h2) hb)
  · rw [List.getElem?_append_right (by omega)] at h1 h2
    have hi0 : i - ls.length = 0 := by
      rcases Nat.eq_zero_or_pos (i - ls.length) with h | h
      · exact h
      · rw [List.getElem?_eq_none (by simp; omega)] at h2; cases h2
    rw [hl, hi0] at h1
    rw [hi0] at h2
    simp at h1 h2
    subst h1 h2
    exact keep hn
def FmtPost (w : World) (ls : List LineI) (e : Ending) (w' : World) : Prop :=
  Below w.heap.size w w' ∧ ∃ v, e = .returned (.tuple #[v, .int .i64 0]) ∧ LinesOwnI w' w.heap.size v ls
/-- Sizes of any declaration that a call is given. -/
structure DeclSz (d : DeclD) : Prop where
  names : d.names.length ≤ 8796093021952
  nums : d.nums.length ≤ 17592186044416
  ints : ∀ z ∈ d.nums, -9223372036854775808 ≤ z ∧ z ≤ 9223372036854775807
  each : ∀ f ∈ d.names, f.length ≤ maxLen
theorem validB_nums {d : DeclD} (h : validB d = true) : d.nums.length ≤ 100 := by
  unfold validB at h
  simp only [Bool.and_eq_true, decide_eq_true_eq] at h
  have h1 := h.2.1.1
  have h2 := shapeX_le (wordN d.word)
  omega
/-- What Format returns for any declarations. -/
def FmtPost2 (w : World) (ds : List DeclD) (e : Ending) (w' : World) : Prop :=
  Below w.heap.size w w' ∧ (ds.all validB = true ∧ (∃ v, e = .returned (.tuple #[v, .int .i64 0]) ∧ LinesOwnI w' w.heap.size v (ds.map lineOf)) ∨ ds.all validB = false ∧ e = .returned (.tuple #[.slice none 0 0, .int .i64 20]))
theorem allV_bad {ds : List DeclD} {k : Nat} (h : k < ds.length) (hv : validB ds[k] = false) : ds.all validB = false := by
  rw [List.all_eq_false]
  exact ⟨ds[k], List.getElem_mem h, by simp [hv]⟩
theorem allV_take {ds : List DeclD} {k : Nat} (h : k < ds.length) (hv : validB ds[k] = true) (ha : (ds.take k).all validB = true) : (ds.take (k + 1)).all validB = true := by
  rw [List.take_succ_eq_append_getElem h, List.all_append, ha]
  simp [hv]
set_option maxRecDepth 100000 in
set_option maxHeartbeats 4000000 in
theorem format_c2 (A : Option Addr) (c : Nat) (ds : List DeclD) (w : World) (hg : Shapes w) (hp : Pows w) (hd : DeclsAt w A ds) (hl : ds.length ≤ 2199023255552) (hok : ∀ d ∈ ds, DeclSz d) :
    Calls Tryd.prog 7 #[.slice A ds.length c] w (FmtPost2 w ds) := by
  have HG := Lib.hid hg
  have HP := Lib.hid hp
  have HD := Lib.hid hd
  have HOK := Lib.hid hok
  clear hg hp hd hok
  obtain ⟨i0, hi, hz0, hz1, hz2⟩ := info_parts Tryd.infoLine
  go_enter Tryd.func7, Tryd.ntmps7
  go_wp2_with (refine wpList_make_own _ rfl _ _ 40 rfl w.heap.size 52 i0 (.agg #[.int .i64 0, .slice none 0 0]) 2 Tryd.underlying40 hi hz0 hz1 .i64 .i64 _ ds.length rfl rfl rfl (by rw [hz2]; omega) (by unfold maxLen; omega) (Nat.le_refl _) ?_)
  intro w1 own1 hg1
  have hb1 : Below w.heap.size w w1 := (Below.refl _ _).grown hg1 (Nat.le_refl _) (fun k hk => by cases hk)
  obtain ⟨g, hgg⟩ : ∃ g, g = w.heap.size := ⟨_, rfl⟩
  rw [← hgg] at own1 ⊢
  have HGG := Lib.hid hgg
  clear hg1 hgg
  go_wp2
  go_loopw [4, 14] (fun v i wr => ∃ (k : Nat), i = .int .i64 k ∧ k ≤ ds.length ∧ Hid (LinesOwnI wr w.heap.size v ((ds.take k).map lineOf)) ∧ Hid ((ds.take k).all validB = true) ∧ Below w.heap.size w wr) (fun _ i _ => ds.length - (intOf i).toNat)
  case atStart => exact ⟨0, rfl, Nat.zero_le _, Lib.hid ⟨[], rfl, ownsRow_base own1 (by have := HGG.out; omega), by simp⟩, Lib.hid rfl, hb1⟩
  case round =>
    clear hb1 own1
    obtain ⟨k, rfl, hk, HO, HAl, hb⟩ := hrel
    by_cases hlt : k < ds.length
    · obtain ⟨b, o, A1, c1, A2, c2, rfl, e0, e1, e2, e3, h1, h2⟩ := (HD.out.keep hb).one hlt
      have hS := HOK.out ds[k] (List.getElem_mem hlt)
      rcases hv : validB ds[k] with _ | _
      · have HBad := Lib.hid (allV_bad hlt hv)
        have HV := Lib.hid (fun W (hb : Below wr.heap.size wr W) (hW : Shapes W) => valid_c ds[k] A1 A2 c1 c2 W hW (h1.keep hb) (h2.keep hb) (by have := hS.names; omega) (by have := hS.nums; omega) hS.each)
        rw [hv] at HV
        have HGr := Lib.hid (HG.out.keep hb)
        have HB := Lib.hid hb
        clear h1 h2 hS hv hb HO HAl
        generalize ds[k] = d at *
        obtain ⟨dw, dl, ns, xs⟩ := d
        simp only at e0 e1 e2 e3 HV
        go_wp2_with fail
        have hbx : Below wr.heap.size wr (wr.alloc (.cells #[.int .i64 dw, .int .i64 dl, .slice A1 ns.length c1, .slice A2 xs.length c2] 47)) := (Below.refl _ _).alloc (Nat.le_refl _) _
        generalize wr.alloc (.cells #[.int .i64 dw, .int .i64 dl, .slice A1 ns.length c1, .slice A2 xs.length c2] 47) = wx at *
        refine (HV.out _ hbx (HGr.out.keep hbx)).mono ?_
        rintro e w2 ⟨rfl, hb2⟩
        have HB2 := Lib.hid (HB.out.trans ((hbx.trans (hb2.mono hbx.size)).mono HB.out.size))
        clear hbx hb2 HV
        go_wp2
        go_ret2
        exact ⟨HB2.out, .inr ⟨HBad.out, rfl⟩⟩
      have hF : FmtOk ds[k] := ⟨hv, hS.names, validB_nums hv, hS.ints⟩
      have HAl2 := Lib.hid (allV_take hlt hv HAl.out)
      clear hS hv HAl
      have HT : Hid ((ds.take (k + 1)).map lineOf = (ds.take k).map lineOf ++ [lineOf ds[k]]) := Lib.hid (by rw [List.take_succ_eq_append_getElem hlt, List.map_append]; rfl)
      have HLt : Hid (((ds.take k).map lineOf).length = k) := Lib.hid (by rw [List.length_map, List.length_take]; omega)
      have hF2 := hF.short
      have HV := Lib.hid (fun W (hb : Below wr.heap.size wr W) (hW : Shapes W) => valid_c ds[k] A1 A2 c1 c2 W hW (h1.keep hb) (h2.keep hb) (by have := hF.names; omega) (by have := hF.nums; omega) (fun f hf => by have := hF2 f hf; unfold maxLen; omega))
      rw [hF.valid] at HV
      have HFF := Lib.hid (fun t W (hb : Below wr.heap.size wr W) (hW : Pows W) => formatFields_c t ds[k] A1 A2 c1 c2 W hW (h1.keep hb) (h2.keep hb) hF.names hF.nums (fun f hf => by have := hF2 f hf; omega) hF.ints)
      have hw0 := hF.word
      have HGr := Lib.hid (HG.out.keep hb)
      have HPr := Lib.hid (HP.out.keep hb)
      clear h1 h2 hF hF2
      generalize hd : ds[k] = d at *
      clear hd
      obtain ⟨dw, dl, ns, xs⟩ := d
      simp only at e0 e1 e2 e3 HV HFF hw0
      have HC := Lib.hid (fun W (hW : Shapes W) => shapeOfWord_c dw W hW)
      rw [shapeV_pos hw0, show decide (wordN dw ≠ 0) = true by simpa using hw0] at HC
      clear hw0
      go_wp2_with fail
      have hbx : Below wr.heap.size wr (wr.alloc (.cells #[.int .i64 dw, .int .i64 dl, .slice A1 ns.length c1, .slice A2 xs.length c2] 47)) := (Below.refl _ _).alloc (Nat.le_refl _) _
      have hX := heap_alloc_new wr (.cells #[.int .i64 dw, .int .i64 dl, .slice A1 ns.length c1, .slice A2 xs.length c2] 47)
      generalize wr.alloc (.cells #[.int .i64 dw, .int .i64 dl, .slice A1 ns.length c1, .slice A2 xs.length c2] 47) = wx at *
      refine (HV.out _ hbx (HGr.out.keep hbx)).mono ?_
      rintro e w2 ⟨rfl, hb2⟩
      have hb12 := hbx.trans (hb2.mono hbx.size)
      have hX2 := (hb2.block _ (block_lt hX)).trans hX
      have x0 : w2.cell? ⟨wr.heap.size, 0, none⟩ = some (.int .i64 dw) := by rw [cell_of_row w2 _ 0 _ _ _ hX2]; rfl
      have HB12 := Lib.hid hb12
      have HX2 := Lib.hid hX2
      clear hbx hX hb2 hX2 HV hb12
      go_wp2_with fail
      refine (HC.out _ (HGr.out.keep HB12.out)).mono ?_
      rintro e w3 ⟨rfl, hb3⟩
      have hb13 := HB12.out.trans (hb3.mono HB12.out.size)
      have hX3 := (hb3.block _ (block_lt HX2.out)).trans HX2.out
      clear HB12 HX2 hb3 HC x0
      obtain ⟨fvs, hfl, hown, hfv⟩ := HO.out.keep hb13
      rw [HLt.out] at hown
      obtain ⟨AO, cO, hvO⟩ := own_slice hown
      subst hvO
      have HOwn := Lib.hid hown
      have HFv := Lib.hid (fun i fv (l : LineI) g1 g2 => (hfv i fv l g1 g2))
      have HFl := Lib.hid hfl
      have HSz : Hid (w.heap.size ≤ wr.heap.size) := Lib.hid hb.size
      have HbW := Lib.hid hb
      have hb14 := fun ob => hb13.alloc hb13.size ob
      have hX4 := fun ob => (heap_alloc_old w3 ob (block_lt hX3)).trans hX3
      generalize hT : wordText (wordN dw) = T at *
      have HTT := Lib.hid hT
      clear hT hown hfv hfl
      go_wp2_with fail
      have hq := heap_alloc_new w3 (.cells #[.int .i64 (wordN dw), S T, .int .i64 (shapeN (wordN dw)), .int .i64 (shapeX (wordN dw)), .bool (decide (wordN dw = 2))] 68)
      have HB4 := Lib.hid (hb14 (.cells #[.int .i64 (wordN dw), S T, .int .i64 (shapeN (wordN dw)), .int .i64 (shapeX (wordN dw)), .bool (decide (wordN dw = 2))] 68))
      have HX4 := Lib.hid (hX4 (.cells #[.int .i64 (wordN dw), S T, .int .i64 (shapeN (wordN dw)), .int .i64 (shapeX (wordN dw)), .bool (decide (wordN dw = 2))] 68))
      have HOw4 := Lib.hid (HOwn.out.alloc (.cells #[.int .i64 (wordN dw), S T, .int .i64 (shapeN (wordN dw)), .int .i64 (shapeX (wordN dw)), .bool (decide (wordN dw = 2))] 68))
      have HFv4 := Lib.hid (fun i fv (l : LineI) g1 g2 => ((HFv.out i fv l g1 g2).alloc (.cells #[.int .i64 (wordN dw), S T, .int .i64 (shapeN (wordN dw)), .int .i64 (shapeX (wordN dw)), .bool (decide (wordN dw = 2))] 68)))
      clear hb14 hX4 hX3 hb13 HOwn HFv hb
      generalize w3.alloc (.cells #[.int .i64 (wordN dw), S T, .int .i64 (shapeN (wordN dw)), .int .i64 (shapeX (wordN dw)), .bool (decide (wordN dw = 2))] 68) = wy at *
      generalize w3.heap.size = q at *
      have q1 : wy.drew.cell? ⟨q, 1, none⟩ = some (S T) := by rw [cell_of_row wy.drew q 1 _ _ _ hq]; rfl
      have y0 : wy.drew.cell? ⟨wr.heap.size, 0, none⟩ = some (.int .i64 dw) := by rw [cell_of_row wy.drew _ 0 _ _ _ HX4.out]; rfl
      have y1 : wy.drew.cell? ⟨wr.heap.size, 1, none⟩ = some (.int .i64 dl) := by rw [cell_of_row wy.drew _ 1 _ _ _ HX4.out]; rfl
      have y2 : wy.drew.cell? ⟨wr.heap.size, 2, none⟩ = some (.slice A1 ns.length c1) := by rw [cell_of_row wy.drew _ 2 _ _ _ HX4.out]; rfl
      have y3 : wy.drew.cell? ⟨wr.heap.size, 3, none⟩ = some (.slice A2 xs.length c2) := by rw [cell_of_row wy.drew _ 3 _ _ _ HX4.out]; rfl
      have HBd := Lib.hid (HB4.out.drew)
      have HPd := Lib.hid (HPr.out.keep HBd.out)
      have hlt4 := block_lt HX4.out
      have hdr : Below wy.heap.size wy wy.drew := (Below.refl _ wy).drew
      have HDR := Lib.hid hdr
      clear hq hdr
      obtain ⟨FS, hFS⟩ : ∃ FS, FS = T :: ns ++ xs.map dec := ⟨_, rfl⟩
      have HFS := Lib.hid hFS
      have HCall := Lib.hid (HFF.out T wy.drew HBd.out HPd.out)
      rw [← HFS.out] at HCall
      clear hFS HFF
      go_region_law (first | (refine step_append_lies _ (by rfl) _ _ _ (by rfl) w.heap.size 52 i0 (.agg #[.int .i64 0, .slice none 0 0]) 2 32 Tryd.underlying40 hi hz0 hz1 hz2 rfl (by omega) (.slice AO k cO) k (lineCellsI ((ds.take k).map lineOf) fvs) (by rfl) (HOA.out.alloc _) ⟨_, 0, none⟩ 1 1 [.int .i64 dl, .slice A5 FS.length c5] (by rfl) (by rfl) (World.news_of_block (cs := #[.int .i64 dl, .slice A5 FS.length c5]) (t := 52) (fr := (0, 0)) (heap_alloc_new _ _)) (by simp [Value.oneCell']) (by omega) (by unfold maxLen; omega) (by omega) (HSA.out _) _ rfl ?_; intro gg cap wn1 hown1 hgrow hat hlt1; have HOW := Lib.hid hown1; have HGR := Lib.hid hgrow; clear hown1 hgrow hat hlt1) | (go_simp; go_at_call 20; refine HCall.out.mono ?_; rintro e w5 ⟨hb5, v5, rfl, own5⟩; obtain ⟨A5, c5, rfl⟩ := own_slice own5; have z1 := (hb5.cell (p := ⟨wr.heap.size, 1, none⟩) hlt4).trans y1; have HOA := Lib.hid (ownsRow_below (ownsRow_below HOw4.out HDR.out) hb5); have HB5 := Lib.hid (HBd.out.trans (hb5.mono HBd.out.size)); have Hb5 := Lib.hid hb5; have HSA : Hid (∀ ob, w.heap.size ≤ (w5.alloc ob).heap.size) := Lib.hid (fun ob => Nat.le_trans (Nat.le_trans HSz.out (HBd.out.trans (hb5.mono HBd.out.size)).size) (by simp)); have HO5 := Lib.hid own5; clear hb5 own5))
      all_goals
        have base9 := own_base HOA.out
        have hbn : Below w.heap.size w wn1 := (((HbW.out.trans (HB5.out.mono HSz.out)).alloc (by have := HSA.out (.cells #[] 0); have := HB5.out.size; have := HSz.out; omega) _)).grown HGR.out (HSA.out _) (fun k hk => base9 k hk)
        have HO9 : Hid (LinesOwnI wn1 w.heap.size (.slice (some ⟨gg, 0, none⟩) (k + 1) cap) ((ds.take (k + 1)).map lineOf)) := Lib.hid (by
          rw [HT.out]
          have hl2 : lineOf ⟨dw, dl, ns, xs⟩ = (dl, FS) := by unfold lineOf; rw [HTT.out, HFS.out]
          rw [hl2]
          refine LinesOwnI.snoc (w := wy) (w2 := w5.alloc _) HFl.out (by rw [HLt.out]; exact HOA.out.alloc _) HFv4.out ((HDR.out.trans (Hb5.out.mono HDR.out.size)).alloc (Nat.le_trans HDR.out.size Hb5.out.size) _) (ownsRow_base (HO5.out.alloc _) (Nat.le_trans HSz.out HBd.out.size)) HGR.out ?_
          rw [HLt.out]
          exact HOW.out)
        clear HOA HOW HGR HB5 Hb5 HO5 HSA base9
        go_wp2
        go_roundw
        case rel => exact ⟨k + 1, by go_num, by omega, HO9, HAl2, hbn⟩
        case measure => simp [intOf]; omega
    · have HO2 : Hid (LinesOwnI wr w.heap.size u4 (ds.map lineOf)) := Lib.hid (by
        have h := HO.out
        rw [show k = ds.length by omega, List.take_length] at h
        exact h)
      obtain rfl : k = ds.length := by omega
      have HA2 : Hid (ds.all validB = true) := Lib.hid (by
        have h := HAl.out
        rw [List.take_of_length_le (Nat.le_refl _)] at h
        exact h)
      clear HAl
      go_wp2
      go_ret2
      exact ⟨hb, .inl ⟨HA2.out, _, rfl, HO2.out⟩⟩
/-- .. on valid declarations. -/
theorem format_c (A : Option Addr) (c : Nat) (ds : List DeclD) (w : World) (hg : Shapes w) (hp : Pows w) (hd : DeclsAt w A ds) (hl : ds.length ≤ 2199023255552) (hok : ∀ d ∈ ds, FmtOk d) :
    Calls Tryd.prog 7 #[.slice A ds.length c] w (FmtPost w (ds.map lineOf)) :=
  (format_c2 A c ds w hg hp hd hl (fun d h => ⟨(hok d h).names, (by have := (hok d h).nums; omega), (hok d h).ints, fun f hf => by have := (hok d h).short f hf; unfold maxLen; omega⟩)).mono fun e w' hp => by
    obtain ⟨hb, ⟨_, h⟩ | ⟨h, _⟩⟩ := hp
    · exact ⟨hb, h⟩
    · rw [List.all_eq_false] at h
      obtain ⟨d, hd, hv⟩ := h
      exact absurd (hok d hd).valid hv
end Go.Proofs.YtgjnhefmheefbaaDoor
namespace Go.Proofs.YtgjnhefmheefbaaDoor
open Go Fl

theorem num_range {l : List UInt8} {z : Int} (h : num l = some z) : rangeB z = true := by
  have key : ∀ (neg : Bool) (l d : List UInt8), numOf neg l d = some z → rangeB z = true := fun neg l d h => by
    unfold numOf at h
    split at h
    · cases h
    · split at h
      · cases h
      · rcases hd : digitsVal 0 d with _ | n
        · rw [hd] at h; cases h
        · rw [hd] at h
          have hn := (digitsVal_ge d 0 hd (by omega)).2
          injection h with h
          unfold rangeB
          rw [decide_eq_true_eq]
          subst h
          split <;> omega
  unfold num at h
  split at h
  · exact key _ _ _ h
  · exact key _ _ _ h
theorem numsA_ok : ∀ (l : List (List UInt8)) (acc zs : List Int), numsA acc l = some zs → acc.all rangeB = true → zs.length = acc.length + l.length ∧ zs.all rangeB = true
  | [], acc, zs, h, ha => by
    rw [numsA] at h
    injection h with h
    subst h
    exact ⟨by simp, ha⟩
  | s :: r, acc, zs, h, ha => by
    rw [numsA] at h
    rcases hz : num s with _ | z
    · rw [hz] at h; cases h
    · rw [hz] at h
      obtain ⟨h1, h2⟩ := numsA_ok r _ zs h (by rw [List.all_append, ha]; simp [num_range hz])
      exact ⟨by rw [h1]; simp; omega, h2⟩
theorem numsA_dec : ∀ (xs acc : List Int), xs.all rangeB = true → numsA acc (xs.map dec) = some (acc ++ xs)
  | [], acc, _ => by simp [numsA]
  | x :: xs, acc, h => by
    simp only [List.all_cons, Bool.and_eq_true] at h
    have hr : -9999 ≤ x ∧ x ≤ 9999 := by simpa [rangeB] using h.1
    rw [List.map_cons, numsA, num_dec x (by omega) (by omega), if_pos hr]
    show numsA (acc ++ [x]) (xs.map dec) = _
    rw [numsA_dec xs _ h.2]
    simp
/-- A declaration that a line was read as. -/
structure ReadOk (d : DeclD) (k : Nat) : Prop where
  word : d.word = k
  pos : k ≠ 0
  le : k ≤ 6
  allow : allowed k d.names.length = true
  nums : d.nums.length = shapeX k
  names : d.names.all name = true
  range : d.nums.all rangeB = true
theorem parse1_ok {n : Int} {fs : List (List UInt8)} {d : DeclD} (h : parse1 (n, fs) = .ok d) : d.line = n ∧ d.names.length ≤ fs.length ∧ ∃ k, ReadOk d k := by
  cases fs with
  | nil => cases h
  | cons s r =>
    by_cases hw : wordOf s = 0
    · rw [parse1_word hw] at h; cases h
    · rcases Bool.eq_false_or_eq_true (allowed (wordOf s) ((r.length : Int) - shapeX (wordOf s))) with ha | ha
      · obtain ⟨hX, hp⟩ := parse1_rest (n := n) hw ha
        rw [hp] at h
        split at h
        · rename_i hn
          rcases hz : numsA [] (r.drop (r.length - shapeX (wordOf s))) with _ | zs
          · rw [hz] at h; cases h
          · rw [hz] at h
            injection h with h
            subst h
            obtain ⟨h1, h2⟩ := numsA_ok _ [] zs hz rfl
            have hlen : (r.take (r.length - shapeX (wordOf s))).length = r.length - shapeX (wordOf s) := by rw [List.length_take]; omega
            refine ⟨rfl, by show (r.take _).length ≤ _; rw [hlen]; simp; omega, wordOf s, rfl, hw, wordOf_le s, ?_, ?_, hn, h2⟩
            · show allowed _ ((r.take _).length : Int) = true
              rw [hlen]
              have e : ((r.length - shapeX (wordOf s) : Nat) : Int) = (r.length : Int) - shapeX (wordOf s) := by omega
              rw [e]; exact ha
            · rw [h1, List.length_drop]; simp; omega
        · cases h
      · rw [parse1_count hw ha] at h; cases h
theorem wordN_nat {k : Nat} (h : k ≠ 0) (h2 : k ≤ 6) : wordN (k : Int) = k := by
  unfold wordN; rw [if_pos (by omega)]; simp
theorem wordText_of {k : Nat} (h : k ≠ 0) (h2 : k ≤ 6) : wordOf (wordText k) = k := by
  obtain rfl | rfl | rfl | rfl | rfl | rfl : k = 1 ∨ k = 2 ∨ k = 3 ∨ k = 4 ∨ k = 5 ∨ k = 6 := by omega
  all_goals rfl
theorem ReadOk.valid {d : DeclD} {k : Nat} (h : ReadOk d k) : validB d = true := by
  unfold validB
  rw [h.word, wordN_nat h.pos h.le, h.names, h.range]
  have ha := h.allow
  unfold allowed at ha
  rw [ha]
  simp [h.pos, h.nums]
theorem ReadOk.back {d : DeclD} {k : Nat} (h : ReadOk d k) : parse1 (lineOf d) = .ok d := by
  unfold lineOf
  rw [h.word, wordN_nat h.pos h.le]
  have hlen : (d.names ++ d.nums.map dec).length = d.names.length + shapeX k := by simp [h.nums]
  have hk := wordText_of h.pos h.le
  have ha : allowed (wordOf (wordText k)) (((d.names ++ d.nums.map dec).length : Int) - shapeX (wordOf (wordText k))) = true := by
    rw [hk, hlen]
    have e : ((d.names.length + shapeX k : Nat) : Int) - (shapeX k : Int) = d.names.length := by omega
    rw [e]; exact h.allow
  obtain ⟨_, hp⟩ := parse1_rest (n := d.line) (s := wordText k) (r := d.names ++ d.nums.map dec) (by rw [hk]; exact h.pos) ha
  rw [List.cons_append, hp, hk, hlen]
  have e : d.names.length + shapeX k - shapeX k = d.names.length := by omega
  rw [e, List.take_left, List.drop_left, if_pos h.names, numsA_dec _ _ h.range, ← h.word]
  rfl
theorem parseA_read : ∀ (L : List LineI) (acc ds : List DeclD), parseA acc L = .ok ds → ∃ es, ds = acc ++ es ∧ es.length = L.length ∧ ∀ d ∈ es, (∃ k, ReadOk d k) ∧ ∃ x ∈ L, d.names.length ≤ x.2.length
  | [], acc, ds, h => by
    injection h with h
    exact ⟨[], by simp [h], rfl, by simp⟩
  | x :: r, acc, ds, h => by
    rw [parseA] at h
    split at h
    · rename_i d hd
      obtain ⟨es, h1, h2, h3⟩ := parseA_read r _ ds h
      obtain ⟨n, fs⟩ := x
      obtain ⟨_, g2, g3⟩ := parse1_ok hd
      refine ⟨d :: es, by rw [h1]; simp, by simp [h2], fun e he => ?_⟩
      rcases List.mem_cons.1 he with rfl | he
      · exact ⟨g3, (n, fs), by simp, g2⟩
      · obtain ⟨a, y, hy, b⟩ := h3 e he
        exact ⟨a, y, by simp [hy], b⟩
    · cases h
theorem parseA_back : ∀ (ds acc : List DeclD), (∀ d ∈ ds, ∃ k, ReadOk d k) → parseA acc (ds.map lineOf) = .ok (acc ++ ds)
  | [], acc, _ => by simp [parseA]
  | d :: ds, acc, h => by
    obtain ⟨k, hk⟩ := h d (by simp)
    rw [List.map_cons, parseA, hk.back]
    show parseA (acc ++ [d]) (ds.map lineOf) = _
    rw [parseA_back ds _ (fun e he => h e (by simp [he]))]
    simp
theorem parseT_back {L : List LineI} {ds : List DeclD} (h : parseT L = .ok ds) (hL : ∀ x ∈ L, x.2.length ≤ 1000) : parseT (ds.map lineOf) = .ok ds ∧ ds.length = L.length ∧ (∀ d ∈ ds, FmtOk d) ∧ (∀ d ∈ ds, d.names.length ≤ 1000 ∧ d.nums.length ≤ 4) := by
  obtain ⟨es, h1, h2, h3⟩ := parseA_read L [] ds h
  simp at h1
  subst h1
  have hn : ∀ d ∈ ds, d.names.length ≤ 1000 ∧ d.nums.length ≤ 4 := fun d hd => by
    obtain ⟨⟨k, hk⟩, x, hx, hb⟩ := h3 d hd
    exact ⟨Nat.le_trans hb (hL x hx), by rw [hk.nums]; exact shapeX_le _⟩
  refine ⟨by have := parseA_back ds [] (fun d hd => (h3 d hd).1); simpa [parseT] using this, h2, fun d hd => ?_, hn⟩
  obtain ⟨⟨k, hk⟩, _⟩ := h3 d hd
  exact ⟨hk.valid, by have := (hn d hd).1; omega, by have := (hn d hd).2; omega, fun z hz => by
    have := List.all_eq_true.1 hk.range z hz
    have hr : -9999 ≤ z ∧ z ≤ 9999 := by simpa [rangeB] using this
    omega⟩
end Go.Proofs.YtgjnhefmheefbaaDoor

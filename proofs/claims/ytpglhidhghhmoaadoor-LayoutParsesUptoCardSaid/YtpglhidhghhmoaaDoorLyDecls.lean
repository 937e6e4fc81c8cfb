/- Declarations in memory, read one by one; and lines that a function's text writes out. -/
import Derived.Test.YtpglhidhghhmoaaDoorLyValid
namespace Go.Proofs.YtpglhidhghhmoaaDoor
open Go.RowKit Fl

theorem declCells_at : ∀ (ds : List DeclD) (fvs : List (Value × Value)) (k : Nat), fvs.length = ds.length → (h : k < ds.length) → ∃ fv, fvs[k]? = some fv ∧ (declCells ds fvs)[k * 4]? = some (.int .i64 ds[k].word) ∧ (declCells ds fvs)[k * 4 + 1]? = some (.int .i64 ds[k].line) ∧ (declCells ds fvs)[k * 4 + 2]? = some fv.1 ∧ (declCells ds fvs)[k * 4 + 3]? = some fv.2
  | d :: ds, fv :: fvs, 0, _, _ => ⟨fv, rfl, rfl, rfl, rfl, rfl⟩
  | d :: ds, fv :: fvs, k + 1, hl, h => by
    obtain ⟨v, h1, h2, h3, h4, h5⟩ := declCells_at ds fvs k (by simpa using hl) (by simpa using h)
    refine ⟨v, by simpa using h1, ?_, ?_, ?_, ?_⟩
    · rw [show (k + 1) * 4 = k * 4 + 1 + 1 + 1 + 1 by omega]; simpa [declCells] using h2
    · rw [show (k + 1) * 4 + 1 = k * 4 + 1 + 1 + 1 + 1 + 1 by omega]; simpa [declCells] using h3
    · rw [show (k + 1) * 4 + 2 = k * 4 + 2 + 1 + 1 + 1 + 1 by omega]; simpa [declCells] using h4
    · rw [show (k + 1) * 4 + 3 = k * 4 + 3 + 1 + 1 + 1 + 1 by omega]; simpa [declCells] using h5
  | [], _, k, _, h => by simp at h
  | _ :: _, [], _, hl, _ => by simp at hl
/-- From address A on, the cells hold the declarations ds. -/
def DeclsAt (w : World) (A : Option Addr) (ds : List DeclD) : Prop := ds = [] ∨ ∃ b o, A = some ⟨b, o, none⟩ ∧ b < w.heap.size ∧
  ∀ k (h : k < ds.length), ∃ A1 c1 A2 c2, w.cell? ⟨b, o + k * 4, none⟩ = some (.int .i64 ds[k].word) ∧ w.cell? ⟨b, o + k * 4 + 1, none⟩ = some (.int .i64 ds[k].line) ∧
    w.cell? ⟨b, o + k * 4 + 2, none⟩ = some (.slice A1 ds[k].names.length c1) ∧ w.cell? ⟨b, o + k * 4 + 3, none⟩ = some (.slice A2 ds[k].nums.length c2) ∧ Holds w A1 (ds[k].names.map S) ∧ Holds w A2 (ds[k].nums.map I)
theorem DeclsAt.keep {w w' : World} {A : Option Addr} {ds : List DeclD} (h : DeclsAt w A ds) (hb : Below w.heap.size w w') : DeclsAt w' A ds := by
  rcases h with h | ⟨b, o, hA, hlt, hc⟩
  · exact .inl h
  · refine .inr ⟨b, o, hA, Nat.lt_of_lt_of_le hlt hb.size, fun k hk => ?_⟩
    obtain ⟨A1, c1, A2, c2, h1, h2, h3, h4, h5, h6⟩ := hc k hk
    exact ⟨A1, c1, A2, c2, (hb.cell (p := ⟨b, _, none⟩) hlt).trans h1, (hb.cell (p := ⟨b, _, none⟩) hlt).trans h2, (hb.cell (p := ⟨b, _, none⟩) hlt).trans h3, (hb.cell (p := ⟨b, _, none⟩) hlt).trans h4, h5.keep hb, h6.keep hb⟩
theorem DeclsAt.one {w : World} {A : Option Addr} {ds : List DeclD} (h : DeclsAt w A ds) {k : Nat} (hk : k < ds.length) : ∃ b o A1 c1 A2 c2, A = some ⟨b, o, none⟩ ∧ w.cell? ⟨b, o + k * 4, none⟩ = some (.int .i64 ds[k].word) ∧ w.cell? ⟨b, o + k * 4 + 1, none⟩ = some (.int .i64 ds[k].line) ∧
    w.cell? ⟨b, o + k * 4 + 2, none⟩ = some (.slice A1 ds[k].names.length c1) ∧ w.cell? ⟨b, o + k * 4 + 3, none⟩ = some (.slice A2 ds[k].nums.length c2) ∧ Holds w A1 (ds[k].names.map S) ∧ Holds w A2 (ds[k].nums.map I) := by
  rcases h with rfl | ⟨b, o, hA, _, hc⟩
  · simp at hk
  · obtain ⟨A1, c1, A2, c2, h⟩ := hc k hk
    exact ⟨b, o, A1, c1, A2, c2, hA, h⟩
theorem DeclsOwn.at_ {w : World} {base : Nat} {v : Value} {ds : List DeclD} (h : DeclsOwn w base v ds) : ∃ A c, v = .slice A ds.length c ∧ DeclsAt w A ds := by
  obtain ⟨fvs, hl, hown, hf⟩ := h
  obtain ⟨A, c, rfl⟩ := own_slice hown
  refine ⟨A, c, rfl, ?_⟩
  have hh := ownsRow_holds hown
  rcases Nat.eq_zero_or_pos ds.length with h0 | h0
  · exact .inl (List.eq_nil_of_length_eq_zero h0)
  · obtain ⟨b, o, hA, hlt, _⟩ := hh.at_ (by rw [declCells_length ds fvs hl]; omega)
    refine .inr ⟨b, o, hA, hlt, fun k hk => ?_⟩
    obtain ⟨fv, g1, g2, g3, g4, g5⟩ := declCells_at ds fvs k hl hk
    obtain ⟨n1, n2⟩ := hf k fv ds[k] g1 (List.getElem?_eq_getElem hk)
    obtain ⟨A1, c1, hv1⟩ := own_slice n1
    obtain ⟨A2, c2, hv2⟩ := own_slice n2
    rw [hv1] at g4 n1
    rw [hv2] at g5 n2
    exact ⟨A1, c1, A2, c2, hh.get hA g2, by rw [Nat.add_assoc]; exact hh.get hA g3, by rw [Nat.add_assoc]; exact hh.get hA g4, by rw [Nat.add_assoc]; exact hh.get hA g5, ownsRow_holds n1, ownsRow_holds n2⟩
/-- One line that a function's text writes out. -/
theorem raw_lit {W : World} {L F : Nat} {n : Int} {fs : List (List UInt8)} {cs : Array Value} {t1 t2 : TypeId} {f1 f2 : Nat × Nat} (hF : W.heap[F]? = some (.cells cs t1 f1)) (hcs : cs.toList = fs.map S) (hL : W.heap[L]? = some (.cells #[.int .i64 n, .slice (some ⟨F, 0, none⟩) fs.length fs.length] t2 f2)) : RawAt W (some ⟨L, 0, none⟩) [(n, fs)] := by
  refine .inr ⟨L, 0, rfl, block_lt hL, fun k hk => ?_⟩
  obtain rfl : k = 0 := by simpa using hk
  refine ⟨some ⟨F, 0, none⟩, fs.length, by rw [cell_of_row W L _ _ _ _ hL]; rfl, by rw [cell_of_row W L _ _ _ _ hL]; rfl, Nat.le_refl _, .inr ⟨F, 0, rfl, block_lt hF, fun j hj => ?_⟩⟩
  rw [cell_of_row W F _ _ _ _ hF, Nat.zero_add, ← Array.getElem?_toList, hcs]
  exact List.getElem?_eq_getElem (l := fs.map S) hj
theorem parse_lit {W : World} {L F : Nat} {n : Int} {fs : List (List UInt8)} {cs : Array Value} {t1 t2 : TypeId} {f1 f2 : Nat × Nat} (hg : Shapes W) (hF : W.heap[F]? = some (.cells cs t1 f1)) (hcs : cs.toList = fs.map S) (hL : W.heap[L]? = some (.cells #[.int .i64 n, .slice (some ⟨F, 0, none⟩) fs.length fs.length] t2 f2)) (hl : fs.length ≤ 100) (hs : ∀ f ∈ fs, f.length ≤ 100) :
    Calls Tryd.prog 9 #[.slice (some ⟨L, 0, none⟩) 1 1] W (ParsePost W (parseT [(n, fs)])) :=
  parse_c (some ⟨L, 0, none⟩) 1 [(n, fs)] W hg (raw_lit hF hcs hL) (by simp) (fun x hx => by simp at hx; subst hx; simp only; omega) (fun x hx f hf => by simp at hx; subst hx; have := hs f hf; omega)
end Go.Proofs.YtpglhidhghhmoaaDoor

/- A listed variable that is made of integers, bools and strings alone holds just the cells of its datum. -/
import Derived.DeepKeys2
import Derived.LaidLaws
import Derived.ChangeArms
import Derived.Lib.LaidTab
import Derived.Laws.CopyOwn
import Derived.WalkKit
import Derived.Test.YtpdjcccpohnmcaaDoorChecked
namespace Go.Proofs.YtpdjcccpohnmcaaDoor
open Go

mutual
/-- The cells of a datum of literals. -/
def flatD {H : Type} : DataW H → List Value
  | .lit l => [l.toCell]
  | .agg ds => flatDs ds
  | _ => []
def flatDs {H : Type} : List (DataW H) → List Value
  | [] => []
  | d :: ds => flatD d ++ flatDs ds
end
theorem flatDs_mapM {H α β : Type} {f : α → Option (DataW H × β)} {ch : α → List Value} : ∀ {L : List α} {xs : List (DataW H × β)}, L.mapM f = some xs → (∀ x ∈ L, ∀ y, f x = some y → ch x = flatD y.1) → (L.map ch).flatten = flatDs (xs.map (·.1))
  | [], xs, h, _ => by
    simp at h
    subst h
    rfl
  | x :: L, xs, h, hall => by
    rw [List.mapM_cons] at h
    simp only [bind, Option.bind_eq_some_iff, pure, Option.some.injEq] at h
    obtain ⟨y, hy, ys, hys, rfl⟩ := h
    rw [List.map_cons, List.flatten_cons, List.map_cons, flatDs, hall x (by simp) y hy, flatDs_mapM hys (fun z hz => hall z (by simp [hz]))]
theorem flat_of_trod {H : Type} {P : Program} {enc : TypeId × Value → H} {w : World} {base : Nat} {sp : Nat → Bool} {held : Bool} : ∀ (m : Nat) (t : TypeId), P.tiled m t = true → ∀ (fuel : Nat) (cs : List Value) (d : DataW H) (p : List MemPlace), DataW.trod enc P w base sp held fuel t cs = some (d, p) → cs = flatD d
  | 0, _, h => by simp [Program.tiled] at h
  | m + 1, t, ht => by
    intro fuel cs d p h
    unfold Program.tiled at ht
    cases hu : P.underlying t with
    | none => simp [hu] at ht
    | some kd =>
      cases kd <;> simp only [hu] at ht <;> try (cases ht; done)
      case bool =>
        obtain ⟨b, rfl, hx⟩ := DataW.trod_bool hu h
        injection hx with hx _
        subst hx
        rfl
      case int q =>
        obtain ⟨b, rfl, hx, _⟩ := DataW.trod_int hu h
        injection hx with hx _
        subst hx
        rfl
      case string =>
        obtain ⟨b, rfl, hx, _⟩ := DataW.trod_string hu h
        injection hx with hx _
        subst hx
        simp [flatD, Lit.toCell]
      case array k e =>
        simp only [Bool.and_eq_true, beq_iff_eq] at ht
        cases fuel with
        | zero => simp [DataW.trod] at h
        | succ n =>
          unfold DataW.trod at h
          simp only [hu] at h
          split at h
          · rename_i hl
            simp only [Option.map_eq_some_iff] at h
            obtain ⟨xs, hx, he⟩ := h
            injection he with he _
            subst he
            rw [flatD, ← flatDs_mapM (ch := fun i => (cs.drop (i * P.cellsOf e)).take (P.cellsOf e)) hx (fun i _ y hy => flat_of_trod m e ht.2 n _ y.1 y.2 hy), chunks_flatten _ k cs (by rw [hl, ht.1])]
          · cases h
      case struct fs =>
        simp only [Bool.and_eq_true, beq_iff_eq] at ht
        cases fuel with
        | zero => simp [DataW.trod] at h
        | succ n =>
          unfold DataW.trod at h
          simp only [hu] at h
          split at h
          · rename_i hl
            simp only [Option.map_eq_some_iff] at h
            obtain ⟨xs, hx, he⟩ := h
            injection he with he _
            subst he
            rw [flatD, ← flatDs_mapM (ch := fun f => (cs.drop f.offset).take (P.cellsOf f.type)) hx (fun f hf y hy => flat_of_trod m f.type (Array.all_eq_true'.1 ht.2 f (by simpa using hf)) n _ y.1 y.2 hy), fields_flatten cs _ 0 _ ht.1 hl]
            rfl
          · cases h
/-- What a listed variable reads. -/
theorem laid_reads {P : Program} {w : World} : ∀ {l : List (String × DataW Unit)} {ps : List MemPlace}, DataW.LaidVars P w l ps → ∀ n d, (n, d) ∈ l → ∃ g t cs fuel p, P.globalNamed n = some g ∧ (P.globals[g]?).map (·.type) = some t ∧ w.var? P n = some cs ∧ DataW.trod (fun _ => ()) P w 0 (fun _ => true) false fuel t cs.toList = some (d, p)
  | [], _, _, n, d, hm => by simp at hm
  | _ :: _, _, h, n, d, hm => by
    obtain ⟨g, t, cs, fuel, p, q, h1, h2, h3, h4, h5, _⟩ := h
    rcases List.mem_cons.1 hm with e | hm
    · subst e
      exact ⟨g, t, cs, fuel, p, h1, h2, h3, h4⟩
    · exact laid_reads h5 n d hm
/-- The variable is a row that holds the cells of its datum. -/
theorem laid_row {P : Program} {w : World} {l : List (String × DataW Unit)} (h : laidMet P l w) {n : String} {d : DataW Unit} (hm : (n, d) ∈ l) {g t m : Nat} (hg : P.globalNamed n = some g) (ht : (P.globals[g]?).map (·.type) = some t) (htl : P.tiled m t = true) :
    ∃ ty fr, w.heap[g]? = some (.cells (flatD d).toArray ty fr) := by
  obtain ⟨ps, hl, _⟩ := h
  obtain ⟨g', t', cs, fuel, p, hg', ht', hv, hd⟩ := laid_reads hl n d hm
  obtain rfl := Option.some.inj (hg.symm.trans hg')
  obtain rfl := Option.some.inj (ht.symm.trans ht')
  have e := flat_of_trod m t htl fuel cs.toList d p hd
  unfold World.var? at hv
  rw [hg, Option.bind_some] at hv
  split at hv
  · rename_i c ty fr hh
    injection hv with hv
    subst hv
    exact ⟨ty, fr, by rw [hh, ← e]⟩
  · cases hv
/-- Two results, the first one in a row. -/
theorem results_cell_tmp {P : Program} {fn : Func} {p q : Tmp} {ty : TypeId} (h : fn.results = #[.cell p ty, .tmp q]) (tmps : Array Value) (w : World) (g : Nat) (t : TypeId) (cs : Array Value) (fr : Nat × Nat) (d : TypeDesc)
    (hp : tmps.getD p undef = .pointer (some ⟨g, 0, none⟩)) (hg : w.heap[g]? = some (.cells cs t fr))
    (hu : P.underlying ty = some d) (hd : (match d with | .struct _ | .array _ _ => true | _ => false) = true) (hi : (P.info? ty).map (·.size) = some cs.size) :
    (results fn tmps).run P w = .ok (.tuple #[.agg cs, tmps.getD q undef]) w := by
  have hp' : tmps[p]?.getD undef = .pointer (some ⟨g, 0, none⟩) := by simpa using hp
  simp [results, h, hp', asAddr, run_loadVar_row w g t ty cs fr d hg hu hd hi]
end Go.Proofs.YtpdjcccpohnmcaaDoor

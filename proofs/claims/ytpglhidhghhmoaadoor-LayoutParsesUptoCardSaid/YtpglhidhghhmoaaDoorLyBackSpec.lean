/- Declarations that were read are read back from their lines. No program is run here. -/
import Derived.Test.YtpglhidhghhmoaaDoorLyFormat
namespace Go.Proofs.YtpglhidhghhmoaaDoor
open Go Fl

theorem num_range {l : List UInt8} {z : Int} (h : num l = some z) : rangeB z = true := by
  have key : ∀ (neg : Bool) (l d : List UInt8), numOf neg l d = some z → rangeB z = true := fun neg l d h => by
    unfold numOf at h
    split at h
    · cases h
    · split at h
      · cases h
      · rcases hd : digitsVal 0 d with _ | n
        · rw [hd] at h; cases h
        · rw [hd] at h
          have hn := (digitsVal_ge d 0 hd (by omega)).2
          injection h with h
          unfold rangeB
          rw [decide_eq_true_eq]
          subst h
          split <;> omega
  unfold num at h
  split at h
  · exact key _ _ _ h
  · exact key _ _ _ h
theorem numsA_ok : ∀ (l : List (List UInt8)) (acc zs : List Int), numsA acc l = some zs → acc.all rangeB = true → zs.length = acc.length + l.length ∧ zs.all rangeB = true
  | [], acc, zs, h, ha => by
    rw [numsA] at h
    injection h with h
    subst h
    exact ⟨by simp, ha⟩
  | s :: r, acc, zs, h, ha => by
    rw [numsA] at h
    rcases hz : num s with _ | z
    · rw [hz] at h; cases h
    · rw [hz] at h
      obtain ⟨h1, h2⟩ := numsA_ok r _ zs h (by rw [List.all_append, ha]; simp [num_range hz])
      exact ⟨by rw [h1]; simp; omega, h2⟩
theorem numsA_dec : ∀ (xs acc : List Int), xs.all rangeB = true → numsA acc (xs.map dec) = some (acc ++ xs)
  | [], acc, _ => by simp [numsA]
  | x :: xs, acc, h => by
    simp only [List.all_cons, Bool.and_eq_true] at h
    have hr : -9999 ≤ x ∧ x ≤ 9999 := by simpa [rangeB] using h.1
    rw [List.map_cons, numsA, num_dec x (by omega) (by omega), if_pos hr]
    show numsA (acc ++ [x]) (xs.map dec) = _
    rw [numsA_dec xs _ h.2]
    simp
/-- A declaration that a line was read as. -/
structure ReadOk (d : DeclD) (k : Nat) : Prop where
  word : d.word = k
  pos : k ≠ 0
  le : k ≤ 6
  allow : allowed k d.names.length = true
  nums : d.nums.length = shapeX k
  names : d.names.all name = true
  range : d.nums.all rangeB = true
theorem parse1_ok {n : Int} {fs : List (List UInt8)} {d : DeclD} (h : parse1 (n, fs) = .ok d) : d.line = n ∧ d.names.length ≤ fs.length ∧ ∃ k, ReadOk d k := by
  cases fs with
  | nil => cases h
  | cons s r =>
    by_cases hw : wordOf s = 0
    · rw [parse1_word hw] at h; cases h
    · rcases Bool.eq_false_or_eq_true (allowed (wordOf s) ((r.length : Int) - shapeX (wordOf s))) with ha | ha
      · obtain ⟨hX, hp⟩ := parse1_rest (n := n) hw ha
        rw [hp] at h
        split at h
        · rename_i hn
          rcases hz : numsA [] (r.drop (r.length - shapeX (wordOf s))) with _ | zs
          · rw [hz] at h; cases h
          · rw [hz] at h
            injection h with h
            subst h
            obtain ⟨h1, h2⟩ := numsA_ok _ [] zs hz rfl
            have hlen : (r.take (r.length - shapeX (wordOf s))).length = r.length - shapeX (wordOf s) := by rw [List.length_take]; omega
            refine ⟨rfl, by show (r.take _).length ≤ _; rw [hlen]; simp; omega, wordOf s, rfl, hw, wordOf_le s, ?_, ?_, hn, h2⟩
            · show allowed _ ((r.take _).length : Int) = true
              rw [hlen]
              have e : ((r.length - shapeX (wordOf s) : Nat) : Int) = (r.length : Int) - shapeX (wordOf s) := by omega
              rw [e]; exact ha
            · rw [h1, List.length_drop]; simp; omega
        · cases h
      · rw [parse1_count hw ha] at h; cases h
theorem wordN_nat {k : Nat} (h : k ≠ 0) (h2 : k ≤ 6) : wordN (k : Int) = k := by
  unfold wordN; rw [if_pos (by omega)]; simp
theorem wordText_of {k : Nat} (h : k ≠ 0) (h2 : k ≤ 6) : wordOf (wordText k) = k := by
  obtain rfl | rfl | rfl | rfl | rfl | rfl : k = 1 ∨ k = 2 ∨ k = 3 ∨ k = 4 ∨ k = 5 ∨ k = 6 := by omega
  all_goals rfl
theorem ReadOk.valid {d : DeclD} {k : Nat} (h : ReadOk d k) : validB d = true := by
  unfold validB
  rw [h.word, wordN_nat h.pos h.le, h.names, h.range]
  have ha := h.allow
  unfold allowed at ha
  rw [ha]
  simp [h.pos, h.nums]
theorem ReadOk.back {d : DeclD} {k : Nat} (h : ReadOk d k) : parse1 (lineOf d) = .ok d := by
  unfold lineOf
  rw [h.word, wordN_nat h.pos h.le]
  have hlen : (d.names ++ d.nums.map dec).length = d.names.length + shapeX k := by simp [h.nums]
  have hk := wordText_of h.pos h.le
  have ha : allowed (wordOf (wordText k)) (((d.names ++ d.nums.map dec).length : Int) - shapeX (wordOf (wordText k))) = true := by
    rw [hk, hlen]
    have e : ((d.names.length + shapeX k : Nat) : Int) - (shapeX k : Int) = d.names.length := by omega
    rw [e]; exact h.allow
  obtain ⟨_, hp⟩ := parse1_rest (n := d.line) (s := wordText k) (r := d.names ++ d.nums.map dec) (by rw [hk]; exact h.pos) ha
  rw [List.cons_append, hp, hk, hlen]
  have e : d.names.length + shapeX k - shapeX k = d.names.length := by omega
  rw [e, List.take_left, List.drop_left, if_pos h.names, numsA_dec _ _ h.range, ← h.word]
  rfl
theorem parseA_read : ∀ (L : List LineI) (acc ds : List DeclD), parseA acc L = .ok ds → ∃ es, ds = acc ++ es ∧ es.length = L.length ∧ ∀ d ∈ es, (∃ k, ReadOk d k) ∧ ∃ x ∈ L, d.names.length ≤ x.2.length
  | [], acc, ds, h => by
    injection h with h
    exact ⟨[], by simp [h], rfl, by simp⟩
  | x :: r, acc, ds, h => by
    rw [parseA] at h
    split at h
    · rename_i d hd
      obtain ⟨es, h1, h2, h3⟩ := parseA_read r _ ds h
      obtain ⟨n, fs⟩ := x
      obtain ⟨_, g2, g3⟩ := parse1_ok hd
      refine ⟨d :: es, by rw [h1]; simp, by simp [h2], fun e he => ?_⟩
      rcases List.mem_cons.1 he with rfl | he
      · exact ⟨g3, (n, fs), by simp, g2⟩
      · obtain ⟨a, y, hy, b⟩ := h3 e he
        exact ⟨a, y, by simp [hy], b⟩
    · cases h
theorem parseA_back : ∀ (ds acc : List DeclD), (∀ d ∈ ds, ∃ k, ReadOk d k) → parseA acc (ds.map lineOf) = .ok (acc ++ ds)
  | [], acc, _ => by simp [parseA]
  | d :: ds, acc, h => by
    obtain ⟨k, hk⟩ := h d (by simp)
    rw [List.map_cons, parseA, hk.back]
    show parseA (acc ++ [d]) (ds.map lineOf) = _
    rw [parseA_back ds _ (fun e he => h e (by simp [he]))]
    simp
theorem parseT_back {L : List LineI} {ds : List DeclD} (h : parseT L = .ok ds) (hL : ∀ x ∈ L, x.2.length ≤ 1000) : parseT (ds.map lineOf) = .ok ds ∧ ds.length = L.length ∧ (∀ d ∈ ds, FmtOk d) ∧ (∀ d ∈ ds, d.names.length ≤ 1000 ∧ d.nums.length ≤ 4) := by
  obtain ⟨es, h1, h2, h3⟩ := parseA_read L [] ds h
  simp at h1
  subst h1
  have hn : ∀ d ∈ ds, d.names.length ≤ 1000 ∧ d.nums.length ≤ 4 := fun d hd => by
    obtain ⟨⟨k, hk⟩, x, hx, hb⟩ := h3 d hd
    exact ⟨Nat.le_trans hb (hL x hx), by rw [hk.nums]; exact shapeX_le _⟩
  refine ⟨by have := parseA_back ds [] (fun d hd => (h3 d hd).1); simpa [parseT] using this, h2, fun d hd => ?_, hn⟩
  obtain ⟨⟨k, hk⟩, _⟩ := h3 d hd
  exact ⟨hk.valid, by have := (hn d hd).1; omega, by have := (hn d hd).2; omega, fun z hz => by
    have := List.all_eq_true.1 hk.range z hz
    have hr : -9999 ≤ z ∧ z ≤ 9999 := by simpa [rangeB] using this
    omega⟩
end Go.Proofs.YtpglhidhghhmoaaDoor

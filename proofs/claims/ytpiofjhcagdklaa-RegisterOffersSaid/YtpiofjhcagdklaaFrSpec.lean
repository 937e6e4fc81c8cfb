/- Frames and their bytes, as plain data. -/
import Derived.Below
namespace Go.Proofs.Ytpiofjhcagdklaa.Fl

structure FrD where
  kind : Int
  robot : Int
  seq : Int
  cell : Int
  flag : Int
deriving DecidableEq
/-- The zero frame. -/
def zeroF : FrD := ⟨0, 0, 0, 0, 0⟩
/-- A number of 64 bits without a sign. -/
def U64 (s : Int) : Prop := 0 ≤ s ∧ s < 18446744073709551616
def fromB (a b x : Int) : Bool := decide (a ≤ x ∧ x ≤ b)
theorem fromB_iff {a b x : Int} : fromB a b x = true ↔ a ≤ x ∧ x ≤ b := by simp [fromB]
theorem fromB_no {a b x : Int} (h : fromB a b x = false) : ¬ (a ≤ x ∧ x ≤ b) := by simpa [fromB] using h
def lastCell (k : Int) : Int := if k = 3 then 0 else 47
def firstFlag (k : Int) : Int := if k = 2 then 1 else 0
def lastFlag (k : Int) : Int := if k = 1 then 1 else 2
def okF (f : FrD) : Bool := decide (1 ≤ f.seq) && fromB 0 7 f.robot && fromB 0 (lastCell f.kind) f.cell && fromB (firstFlag f.kind) (lastFlag f.kind) f.flag
def errF (f : FrD) : Int := if f.kind = 1 ∨ f.kind = 2 ∨ f.kind = 3 then (if okF f then 0 else 19) else 22
def validF (f : FrD) : Bool := decide (errF f = 0)
/-- Byte j of a number, the least one first. -/
def byteN (s : Int) (j : Nat) : Int := s / 256 ^ j % 256
def encF (f : FrD) : List Int := [f.kind, f.robot, byteN f.seq 7, byteN f.seq 6, byteN f.seq 5, byteN f.seq 4, byteN f.seq 3, byteN f.seq 2, byteN f.seq 1, byteN f.seq 0, f.cell, f.flag]
/-- The number of some bytes, the greatest one first. -/
def beN (l : List Int) : Int := l.foldl (fun a b => a * 256 + b) 0
def rawF (l : List Int) : FrD := ⟨l.getD 0 0, l.getD 1 0, beN ((l.drop 2).take 8), l.getD 10 0, l.getD 11 0⟩
def errD (l : List Int) : Int := if l.length = 12 then errF (rawF l) else 21
def decF (l : List Int) : FrD := if errD l = 0 then rawF l else zeroF
/-- The bytes of a slice. -/
def BytesL (l : List Int) : Prop := ∀ x ∈ l, 0 ≤ x ∧ x < 256

theorem byteN_lt (s : Int) (j : Nat) : 0 ≤ byteN s j ∧ byteN s j < 256 := by unfold byteN; omega
theorem errF_cases (f : FrD) : errF f = 0 ∨ errF f = 19 ∨ errF f = 22 := by
  unfold errF
  split
  · split
    · exact .inl rfl
    · exact .inr (.inl rfl)
  · exact .inr (.inr rfl)
theorem errF_ok {f : FrD} (h : errF f = 0) : (f.kind = 1 ∨ f.kind = 2 ∨ f.kind = 3) ∧ okF f = true := by
  unfold errF at h
  split at h
  · rename_i hk
    split at h
    · rename_i ho; exact ⟨hk, ho⟩
    · cases h
  · cases h
theorem okF_bounds {f : FrD} (h : okF f = true) : 1 ≤ f.seq ∧ (0 ≤ f.robot ∧ f.robot ≤ 7) ∧ (0 ≤ f.cell ∧ f.cell ≤ lastCell f.kind) ∧ firstFlag f.kind ≤ f.flag ∧ f.flag ≤ lastFlag f.kind := by
  unfold okF at h
  simp only [Bool.and_eq_true, fromB_iff, decide_eq_true_eq] at h
  exact ⟨h.1.1.1, h.1.1.2, h.1.2, h.2⟩
theorem lastCell_le (k : Int) : lastCell k ≤ 47 := by unfold lastCell; split <;> omega
theorem firstFlag_ge (k : Int) : 0 ≤ firstFlag k := by unfold firstFlag; split <;> omega
theorem lastFlag_le (k : Int) : lastFlag k ≤ 2 := by unfold lastFlag; split <;> omega
theorem errF_bytes {f : FrD} (h : errF f = 0) : (0 ≤ f.kind ∧ f.kind < 256) ∧ (0 ≤ f.robot ∧ f.robot < 256) ∧ (0 ≤ f.cell ∧ f.cell < 256) ∧ (0 ≤ f.flag ∧ f.flag < 256) := by
  obtain ⟨hk, ho⟩ := errF_ok h
  obtain ⟨_, h1, h2, h3⟩ := okF_bounds ho
  have := lastCell_le f.kind
  have := firstFlag_ge f.kind
  have := lastFlag_le f.kind
  refine ⟨by omega, by omega, by omega, by omega⟩
theorem byteN_succ (s : Int) (j : Nat) : s / 256 ^ (j + 1) = s / 256 ^ j / 256 := by
  rw [Int.pow_succ, Int.ediv_ediv_of_nonneg (Int.le_of_lt (Int.pow_pos (by decide)))]
theorem byteN_step (s : Int) (j : Nat) : s / 256 ^ (j + 1) * 256 + byteN s j = s / 256 ^ j := by
  rw [byteN_succ]; unfold byteN; omega
theorem u64_top {s : Int} (h : U64 s) : s / 256 ^ 8 = 0 := by
  obtain ⟨h1, h2⟩ := h
  exact Int.ediv_eq_zero_of_lt h1 (by simpa using h2)
/-- The first k of the eight bytes of a number make the number without its last bytes. -/
def topL (s : Int) : Nat → List Int
  | 0 => []
  | k + 1 => topL s k ++ [byteN s (7 - k)]
theorem topL_len (s : Int) : ∀ k, (topL s k).length = k
  | 0 => rfl
  | k + 1 => by simp [topL, topL_len s k]
theorem beN_snoc (l : List Int) (x : Int) : beN (l ++ [x]) = beN l * 256 + x := by simp [beN]
theorem beN_top {s : Int} (h : U64 s) : ∀ k, k ≤ 8 → beN (topL s k) = s / 256 ^ (8 - k)
  | 0, _ => by rw [u64_top h]; rfl
  | k + 1, hk => by
    rw [topL, beN_snoc, beN_top h k (by omega), show 8 - k = (7 - k) + 1 by omega, byteN_step, show 8 - (k + 1) = 7 - k by omega]
theorem encF_len (f : FrD) : (encF f).length = 12 := rfl
theorem encF_bytes {f : FrD} (h : errF f = 0) : BytesL (encF f) := by
  obtain ⟨h1, h2, h3, h4⟩ := errF_bytes h
  intro x hx
  simp only [encF, List.mem_cons, List.not_mem_nil, or_false] at hx
  rcases hx with rfl | rfl | rfl | rfl | rfl | rfl | rfl | rfl | rfl | rfl | rfl | rfl <;> first | assumption | exact byteN_lt _ _
theorem raw_enc {f : FrD} (h : U64 f.seq) : rawF (encF f) = f := by
  have e : beN (((encF f).drop 2).take 8) = f.seq := by
    have := beN_top h 8 (by omega)
    simp only [Nat.sub_self, Int.pow_zero, Int.ediv_one] at this
    exact this
  unfold rawF
  rw [e]
  rfl
theorem errD_enc {f : FrD} (h : U64 f.seq) : errD (encF f) = errF f := by unfold errD; rw [if_pos (encF_len f), raw_enc h]
theorem dec_enc {f : FrD} (h : U64 f.seq) (he : errF f = 0) : decF (encF f) = f := by unfold decF; rw [errD_enc h, if_pos he, raw_enc h]
theorem enc_inj {f g : FrD} (hf : U64 f.seq) (hg : U64 g.seq) (h : encF f = encF g) : f = g := by rw [← raw_enc hf, ← raw_enc hg, h]
theorem beN_fold : ∀ (l : List Int) (a : Int), 0 ≤ a → BytesL l → 0 ≤ l.foldl (fun a b => a * 256 + b) a ∧ l.foldl (fun a b => a * 256 + b) a < (a + 1) * 256 ^ l.length
  | [], a, h, _ => by simp; omega
  | x :: l, a, h, hb => by
    have hx := hb x (by simp)
    obtain ⟨h1, h2⟩ := beN_fold l (a * 256 + x) (by omega) (fun y hy => hb y (by simp [hy]))
    refine ⟨h1, Int.lt_of_lt_of_le h2 ?_⟩
    rw [List.length_cons, Int.pow_succ, Int.mul_comm (256 ^ l.length) 256, ← Int.mul_assoc]
    exact Int.mul_le_mul_of_nonneg_right (by omega) (Int.le_of_lt (Int.pow_pos (by decide)))
theorem beN_bound (l : List Int) (h : BytesL l) : 0 ≤ beN l ∧ beN l < 256 ^ l.length := by
  have := beN_fold l 0 (by omega) h
  simpa [beN] using this
theorem raw_u64 {l : List Int} (h : BytesL l) (hl : l.length = 12) : U64 (rawF l).seq := by
  have h1 := beN_bound ((l.drop 2).take 8) (fun x hx => h x (List.mem_of_mem_drop (List.mem_of_mem_take hx)))
  have h2 : ((l.drop 2).take 8).length = 8 := by simp; omega
  rw [h2] at h1
  refine ⟨h1.1, ?_⟩
  show beN ((l.drop 2).take 8) < _
  have := h1.2
  simpa using this
theorem byteN_zero {a x : Int} (hx : 0 ≤ x ∧ x < 256) : byteN (a * 256 + x) 0 = x := by
  unfold byteN; simp; omega
theorem byteN_up {a x : Int} (hx : 0 ≤ x ∧ x < 256) (j : Nat) : byteN (a * 256 + x) (j + 1) = byteN a j := by
  unfold byteN
  rw [Int.pow_succ, Int.mul_comm (256 ^ j) 256, ← Int.ediv_ediv_of_nonneg (by omega), show (a * 256 + x) / 256 = a by omega]
theorem enc_raw {l : List Int} (h : BytesL l) (hl : l.length = 12) : encF (rawF l) = l := by
  match l, hl with
  | [a, b, c0, c1, c2, c3, c4, c5, c6, c7, d, e], _ =>
    have k := fun x hx => h x hx
    have e0 : (rawF [a, b, c0, c1, c2, c3, c4, c5, c6, c7, d, e]).seq = (((((((0 * 256 + c0) * 256 + c1) * 256 + c2) * 256 + c3) * 256 + c4) * 256 + c5) * 256 + c6) * 256 + c7 := rfl
    unfold encF
    rw [e0]
    have h0 := h c0 (by simp)
    have h1 := h c1 (by simp)
    have h2 := h c2 (by simp)
    have h3 := h c3 (by simp)
    have h4 := h c4 (by simp)
    have h5 := h c5 (by simp)
    have h6 := h c6 (by simp)
    have h7 := h c7 (by simp)
    rw [byteN_up h7, byteN_up h6, byteN_up h5, byteN_up h4, byteN_up h3, byteN_up h2, byteN_up h1, byteN_zero h0, byteN_up h7, byteN_up h6, byteN_up h5, byteN_up h4, byteN_up h3, byteN_up h2, byteN_zero h1,
      byteN_up h7, byteN_up h6, byteN_up h5, byteN_up h4, byteN_up h3, byteN_zero h2, byteN_up h7, byteN_up h6, byteN_up h5, byteN_up h4, byteN_zero h3, byteN_up h7, byteN_up h6, byteN_up h5, byteN_zero h4,
      byteN_up h7, byteN_up h6, byteN_zero h5, byteN_up h7, byteN_zero h6, byteN_zero h7]
    rfl
theorem enc_dec {l : List Int} (h : BytesL l) (he : errD l = 0) : encF (decF l) = l ∧ U64 (decF l).seq ∧ errF (decF l) = 0 := by
  have hl : l.length = 12 := by
    unfold errD at he
    split at he
    · assumption
    · cases he
  unfold decF
  rw [if_pos he]
  unfold errD at he
  rw [if_pos hl] at he
  exact ⟨enc_raw h hl, raw_u64 h hl, he⟩
end Go.Proofs.Ytpiofjhcagdklaa.Fl

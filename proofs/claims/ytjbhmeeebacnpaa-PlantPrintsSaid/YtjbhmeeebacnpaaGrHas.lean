/- Contracts of the reference's Has and Insert of layer 3: membership; a new ascending list with one number more. -/
import Derived.Test.YtjbhmeeebacnpaaGrApp
namespace Go.Proofs.Ytjbhmeeebacnpaa
open Go Go.RowKit Fl

set_option maxRecDepth 100000 in
set_option maxHeartbeats 1000000 in
theorem has_c (A : Option Addr) (c : Nat) (l : List Int) (x : Int) (w : World) (hh : Holds w A (l.map Iv)) (hl : l.length ≤ 1000000000000000000) :
    Calls Try.prog 29 #[.slice A l.length c, .int .i64 x] w fun e w' => e = .returned (.bool (decide (x ∈ l))) ∧ w = w' := by
  have HH := Lib.hid hh
  clear hh
  go_enter Try.func29, Try.ntmps29
  go_wp2
  go_loop [5] (fun i => ∃ k : Nat, k ≤ l.length ∧ i = .int .i64 k ∧ Hid (x ∉ l.take k)) (fun i => l.length - (intOf i).toNat)
  case atStart => exact ⟨0, Nat.zero_le _, rfl, Lib.hid (by simp)⟩
  case round =>
    obtain ⟨k, hk, rfl, HA⟩ := hrel
    by_cases hlt : k < l.length
    · obtain ⟨b, o, rfl, hc⟩ := HH.out.iv hlt
      by_cases he : l[k] = x
      · have HD : Hid (decide (x ∈ l) = true) := Lib.hid (by rw [decide_eq_true_eq, ← he]; exact List.getElem_mem hlt)
        have hb : (l[k] == x) = true := by rw [he]; simp
        clear HA he
        generalize l[k] = z at *
        go_wp2
        go_ret
        exact ⟨gr_bool HD.out.symm, rfl⟩
      · have hb : (l[k] == x) = false := by simpa using he
        have HA2 : Hid (x ∉ l.take (k + 1)) := Lib.hid (by
          rw [List.take_succ_eq_append_getElem hlt, List.mem_append, List.mem_singleton]
          rintro (h | h)
          · exact HA.out h
          · exact he h.symm)
        clear HA he
        generalize l[k] = z at *
        go_wp2
        go_round
        case rel => exact ⟨k + 1, by omega, by go_num, HA2⟩
        case measure => simp [intOf]; omega
    · have HD : Hid (decide (x ∈ l) = false) := Lib.hid (by
        have := HA.out
        rw [List.take_of_length_le (by omega)] at this
        rwa [decide_eq_false_iff_not])
      go_wp2
      go_ret
      exact ⟨gr_bool HD.out.symm, rfl⟩
/-- A list with x put before its k-th element on. -/
theorem insL_before {l : List Int} {x : Int} {k : Nat} (h : k < l.length) (hb : ∀ y ∈ l.take k, y ≤ x) (hx : x < l[k]) : insL l x = l.take k ++ x :: l.drop k := by
  induction l generalizing k with
  | nil => simp at h
  | cons y l ih =>
    cases k with
    | zero =>
      have hx' : x < y := by simpa using hx
      rw [insL, if_pos hx']; rfl
    | succ k =>
      have hy : y ≤ x := hb y (by simp)
      rw [insL, if_neg (by omega), ih (by simpa using h) (fun z hz => hb z (by simp [hz])) (by simpa using hx)]
      rfl
theorem insL_end {l : List Int} {x : Int} (hb : ∀ y ∈ l, y ≤ x) : insL l x = l ++ [x] := by
  induction l with
  | nil => rfl
  | cons y l ih =>
    have hy : y ≤ x := hb y (by simp)
    rw [insL, if_neg (by omega), ih (fun z hz => hb z (by simp [hz]))]
    rfl
/-- What Insert has made of the first k elements. -/
def InsRel (l : List Int) (x : Int) (k : Nat) (done : Bool) (out : List Int) : Prop :=
  (done = false ∧ out = l.take k ∧ ∀ y ∈ l.take k, y ≤ x) ∨ (done = true ∧ ∃ j, j < k ∧ ∃ h : j < l.length, x < l[j] ∧ (∀ y ∈ l.take j, y ≤ x) ∧ out = l.take j ++ x :: (l.take k).drop j)
theorem InsRel.length {l : List Int} {x : Int} {k : Nat} {d : Bool} {out : List Int} (h : InsRel l x k d out) : out.length ≤ k + 1 := by
  rcases h with ⟨_, rfl, _⟩ | ⟨_, j, hj, h1, _, _, rfl⟩
  · rw [List.length_take]; omega
  · simp; omega
theorem InsRel.put {l : List Int} {x : Int} {k : Nat} {out : List Int} (h : InsRel l x k false out) (hk : k < l.length) (hx : x < l[k]) : InsRel l x (k + 1) true ((out ++ [x]) ++ [l[k]]) := by
  rcases h with ⟨_, rfl, hb⟩ | ⟨h, _⟩
  · refine .inr ⟨rfl, k, by omega, hk, hx, hb, ?_⟩
    rw [List.take_succ_eq_append_getElem hk, List.drop_append, List.drop_of_length_le (by rw [List.length_take]; omega)]
    have : k - (l.take k).length = 0 := by rw [List.length_take]; omega
    rw [this]; simp
  · cases h
theorem InsRel.go {l : List Int} {x : Int} {k : Nat} {d : Bool} {out : List Int} (h : InsRel l x k d out) (hk : k < l.length) (hx : d = false → ¬ x < l[k]) : InsRel l x (k + 1) d (out ++ [l[k]]) := by
  rcases h with ⟨rfl, rfl, hb⟩ | ⟨rfl, j, hj, h1, h2, h3, rfl⟩
  · refine .inl ⟨rfl, (List.take_succ_eq_append_getElem hk).symm, fun y hy => ?_⟩
    rw [List.take_succ_eq_append_getElem hk, List.mem_append, List.mem_singleton] at hy
    have := hx rfl
    rcases hy with hy | rfl
    · exact hb y hy
    · omega
  · refine .inr ⟨rfl, j, by omega, h1, h2, h3, ?_⟩
    rw [List.take_succ_eq_append_getElem hk, List.drop_append_of_le_length (by rw [List.length_take]; omega)]
    simp
theorem InsRel.last {l : List Int} {x : Int} {k : Nat} {d : Bool} {out : List Int} (h : InsRel l x k d out) (hk : l.length ≤ k) : (if d then out else out ++ [x]) = insL l x := by
  rcases h with ⟨rfl, rfl, hb⟩ | ⟨rfl, j, hj, h1, h2, h3, rfl⟩
  · rw [List.take_of_length_le hk] at hb ⊢
    rw [insL_end hb]; rfl
  · rw [List.take_of_length_le hk, insL_before h1 h3 h2]; rfl
set_option maxRecDepth 100000 in
set_option maxHeartbeats 2000000 in
theorem insert_c (A : Option Addr) (c : Nat) (l : List Int) (x : Int) (w : World) (hh : Holds w A (l.map Iv)) (hl : l.length ≤ 1000000) :
    Calls Try.prog 59 #[.slice A l.length c, .int .i64 x] w fun e w' => ∃ v, e = .returned v ∧ w'.ownsRow w.heap.size 3 1 v (insL l x).length ((insL l x).map Iv) ∧ Below w.heap.size w w' := by
  have HH := Lib.hid hh
  clear hh
  go_enter Try.func59, Try.ntmps59
  go_wp2
  go_loopw [5, 6, 7] (fun v d i wr => ∃ (k : Nat) (db : Bool) (out : List Int), i = .int .i64 k ∧ k ≤ l.length ∧ d = .bool db ∧ Hid (InsRel l x k db out) ∧ Hid (wr.ownsRow w.heap.size 3 1 v out.length (out.map Iv)) ∧ Below w.heap.size w wr) (fun _ _ i _ => l.length - (intOf i).toNat)
  case atStart => exact ⟨0, false, [], rfl, Nat.zero_le _, rfl, Lib.hid (.inl ⟨rfl, rfl, by simp⟩), Lib.hid (World.ownsRow_nil _ _ _ _), Below.refl _ _⟩
  case round =>
    obtain ⟨k, db, out, rfl, hk, rfl, HI, HO, hb⟩ := hrel
    have hol := HI.out.length
    have hsz := hb.size
    by_cases hlt : k < l.length
    · obtain ⟨b, o, rfl, hc0⟩ := HH.out.iv hlt
      have hbw : b < w.heap.size := World.block_lt_of_cell? _ _ hc0
      have hc := (hb.cell (p := ⟨b, o + k, none⟩) hbw).trans hc0
      have HC0 := Lib.hid hc0
      have HG : Hid (db = true ∨ ¬ x < l[k] → InsRel l x (k + 1) db (out ++ [l[k]])) := Lib.hid (fun h => HI.out.go hlt (fun e => by rcases h with h | h; (rw [h] at e; cases e); exact h))
      have HP : Hid (db = false → x < l[k] → InsRel l x (k + 1) true ((out ++ [x]) ++ [l[k]])) := Lib.hid (fun e h => by subst e; exact HI.out.put hlt h)
      have base := own_base HO.out
      clear HI hc0
      generalize l[k] = z at *
      by_cases hp : db = false ∧ x < z
      · obtain ⟨rfl, hx⟩ := hp
        have HP2 := Lib.hid (HP.out rfl hx)
        clear HG HP
        go_wp2_with (at_builtin; refine app_int _ rfl _ _ rfl w.heap.size _ _ _ rfl (HO.out.alloc _) wr.heap.size x rfl (by simp [go_sem]) (by omega) (by simp; omega) ?_)
        intro v' w7 own7 hg7
        have hb7 : Below w.heap.size w w7 := (hb.alloc hb.size _).grown hg7 (by simp; omega) (fun k hk => base k hk)
        have HO7 : Hid (w7.ownsRow w.heap.size 3 1 v' (out ++ [x]).length ((out ++ [x]).map Iv)) := Lib.hid (by simpa using own7)
        have hc7 : w7.cell? ⟨b, o + k, none⟩ = some (.int .i64 z) := (hb7.cell (p := ⟨b, o + k, none⟩) hbw).trans HC0.out
        clear own7 hg7 base HO hc
        have base := own_base HO7.out
        have hl7 : (out ++ [x]).length ≤ 1000002 := by simp; omega
        have hsz := hb7.size
        generalize out ++ [x] = out' at *
        go_wp2_with (at_builtin; refine app_int _ rfl _ _ rfl w.heap.size _ _ _ rfl (HO7.out.alloc _) w7.heap.size z rfl (by simp [go_sem]) (by omega) (by simp; omega) ?_)
        intro v8 w8 own8 hg8
        have hb8 : Below w.heap.size w w8 := (hb7.alloc hb7.size _).grown hg8 (by simp; omega) (fun k hk => base k hk)
        have HO8 : Hid (w8.ownsRow w.heap.size 3 1 v8 (out' ++ [z]).length ((out' ++ [z]).map Iv)) := Lib.hid (by simpa using own8)
        clear own8 hg8 base HO7 hc7
        go_wp2
        go_roundw
        case rel => exact ⟨k + 1, true, _, by go_num, by omega, rfl, HP2, HO8, hb8⟩
        case measure => simp [intOf]; omega
      · have HG2 := Lib.hid (HG.out (by rcases db with _ | _; (right; exact fun h => hp ⟨rfl, h⟩); left; rfl))
        have hdd : db = true ∨ db = false ∧ decide (x < z) = false := by rcases db with _ | _; (right; refine ⟨rfl, ?_⟩; simp at hp; simpa using hp); left; rfl
        clear HG HP hp
        rcases hdd with rfl | ⟨rfl, hdx⟩
        all_goals
          go_wp2_with (at_builtin; refine app_int _ rfl _ _ rfl w.heap.size _ _ _ rfl (HO.out.alloc _) wr.heap.size z rfl (by simp [go_sem]) (by omega) (by simp; omega) ?_)
          intro v8 w8 own8 hg8
          have hb8 : Below w.heap.size w w8 := (hb.alloc hb.size _).grown hg8 (by simp; omega) (fun k hk => base k hk)
          have HO8 : Hid (w8.ownsRow w.heap.size 3 1 v8 (out ++ [z]).length ((out ++ [z]).map Iv)) := Lib.hid (by simpa using own8)
          clear own8 hg8 base HO hc
          go_wp2
          go_roundw
          case rel => exact ⟨k + 1, _, _, by go_num, by omega, rfl, HG2, HO8, hb8⟩
          case measure => simp [intOf]; omega
    · have HL := Lib.hid (HI.out.last (by omega))
      have base := own_base HO.out
      clear HI
      rcases db with _ | _
      · go_wp2_with (at_builtin; refine app_int _ rfl _ _ rfl w.heap.size _ _ _ rfl (HO.out.alloc _) wr.heap.size x rfl (by simp [go_sem]) (by omega) (by simp; omega) ?_)
        intro v8 w8 own8 hg8
        have hb8 : Below w.heap.size w w8 := (hb.alloc hb.size _).grown hg8 (by simp; omega) (fun k hk => base k hk)
        have HO8 : Hid (w8.ownsRow w.heap.size 3 1 v8 (out ++ [x]).length ((out ++ [x]).map Iv)) := Lib.hid (by simpa using own8)
        clear own8 hg8 base HO
        go_wp2
        go_ret
        exact ⟨_, rfl, by rw [← HL.out]; exact HO8.out, hb8⟩
      · go_wp2
        go_ret
        exact ⟨_, rfl, by rw [← HL.out]; exact HO.out, hb⟩
end Go.Proofs.Ytjbhmeeebacnpaa

/- Contracts of the reference's Words and Join: Join returns what joinT says. -/
import Derived.Test.YtngapogkhpnieaaDoorFdRefFormed
import Derived.Test.YtngapogkhpnieaaDoorFdJoin
import Derived.Test.YtngapogkhpnieaaDoorFdLawFirst
namespace Go.Proofs.YtngapogkhpnieaaDoor
open Go.RowKit Fl
attribute [local go_sem] bget

theorem join_first {fs : List (List UInt8)} (h : 0 < fs.length) : Lib.join (fs.take 1) [32] = fs[0] := by
  rw [show (1 : Nat) = 0 + 1 from rfl, List.take_succ_eq_append_getElem h, List.take_zero, List.nil_append, Lib.join_one]
theorem join_next {fs : List (List UInt8)} {k : Nat} (h : k < fs.length) (hk : 0 < k) : Lib.join (fs.take (k + 1)) [32] = Lib.join (fs.take k) [32] ++ [32] ++ fs[k] := by
  obtain ⟨j, rfl⟩ : ∃ j, k = j + 1 := ⟨k - 1, by omega⟩
  match fs, h with
  | x :: r, h =>
    have hj : j < r.length := by simpa using h
    rw [List.take_succ_cons, List.take_succ_cons, Lib.join_cons, Lib.join_cons, Lib.joinTail_take_succ [32] r j r[j] (List.getElem?_eq_getElem hj)]
    simp
theorem all_take {fs : List (List UInt8)} (h : fs.all fieldOk = true) (k : Nat) : (fs.take k).all fieldOk = true := by
  rw [List.all_eq_true] at h ⊢
  exact fun x hx => h x (List.mem_of_mem_take hx)
theorem join_take_len {fs : List (List UInt8)} (h : fs.all fieldOk = true) (k : Nat) : (Lib.join (fs.take k) [32]).length ≤ 13 * k := by
  have h1 := join_length_le _ (all_take h k)
  have h2 := List.length_take_le k fs
  omega

set_option maxHeartbeats 2000000 in
theorem refWords_c (A : Option Addr) (c : Nat) (fs : List (List UInt8)) (w : World) (hh : Holds w A (fs.map S)) (hl : fs.length ≤ 8796093021952) (hall : fs.all fieldOk = true) :
    Calls Tryd.prog 40 #[.slice A fs.length c] w fun e w' => e = .returned (S (Lib.join fs [32])) ∧ w = w' := by
  have HH := Lib.hid hh
  have HA := Lib.hid hall
  have HT := Lib.hid (join_take_len hall)
  clear hh hall
  go_enter Tryd.func40, Tryd.ntmps40
  go_wp2
  go_loop [3, 4] (fun s i => ∃ (k : Nat) (acc : List UInt8), i = .int .i64 k ∧ s = S acc ∧ k ≤ fs.length ∧ Hid (acc = Lib.join (fs.take k) [32])) (fun _ i => fs.length - (intOf i).toNat)
  case atStart => exact ⟨0, [], rfl, rfl, Nat.zero_le _, Lib.hid (by simp [Lib.join_nil])⟩
  case round =>
    obtain ⟨k, acc, rfl, rfl, hk, HJ⟩ := hrel
    have hacc : acc.length ≤ 13 * k := by rw [HJ.out]; exact HT.out k
    by_cases hlt : k < fs.length
    · obtain ⟨b, o, rfl, _, hc⟩ := HH.out.at_ (by simp; omega)
      have e3 := hc k (by simpa using hlt)
      simp only [List.getElem_map] at e3
      clear hc
      have hy := (fieldOk_len (List.all_eq_true.1 HA.out _ (List.getElem_mem hlt))).2
      by_cases hk0 : 0 < k
      · have HN : Hid (acc ++ [32] ++ fs[k] = Lib.join (fs.take (k + 1)) [32]) := Lib.hid (by rw [join_next hlt hk0, ← HJ.out])
        clear HJ
        generalize fs[k] = y at *
        have hap1 := bapp2 acc [32]
        have hap2 := bapp2 (acc ++ [32]) y
        go_wp2
        go_round
        case rel => exact ⟨k + 1, _, by go_num, rfl, by omega, Lib.hid (by have := HN.out; simpa using this)⟩
        case measure => simp [intOf]; omega
      · obtain rfl : k = 0 := by omega
        have h0 : acc = [] := by simpa [Lib.join_nil] using HJ.out
        subst h0
        have HN : Hid (fs[0] = Lib.join (fs.take (0 + 1)) [32]) := Lib.hid (join_first hlt).symm
        clear HJ
        simp only [Nat.add_zero] at e3
        generalize fs[0] = y at *
        have hap1 : (⟨#[]⟩ : ByteArray) ++ ⟨y.toArray⟩ = ⟨y.toArray⟩ := bapp2 [] y
        go_wp2
        go_round
        case rel => exact ⟨0 + 1, _, by go_num, rfl, by omega, HN⟩
        case measure => simp [intOf]; omega
    · have HN : Hid (acc = Lib.join fs [32]) := Lib.hid (by rw [HJ.out, List.take_of_length_le (by omega)])
      go_wp2
      go_ret
      exact ⟨congrArg (fun x => Ending.returned (S x)) HN.out, rfl⟩

theorem rep_next (q : Nat) (acc : List UInt8) : acc ++ Lib.repeatL [10] (q + 1) = acc ++ Lib.repeatL [10] q ++ [10] := by
  rw [Lib.repeatL_add, Lib.repeatL_one, List.append_assoc]
set_option maxRecDepth 100000 in
set_option maxHeartbeats 8000000 in
theorem refJoin_c (A : Option Addr) (c : Nat) (ls : List LineI) (w : World) (h : RawAt w A ls) (hl : ls.length ≤ 8796093021952) (hf : ∀ x ∈ ls, x.2.length ≤ 8796093021952) (hs : ∀ x ∈ ls, ∀ f ∈ x.2, f.length ≤ maxLen) (hn : ∀ x ∈ ls, -9223372036854775808 ≤ x.1 ∧ x.1 ≤ 9223372036854775807) :
    Calls Tryd.prog 22 #[.slice A ls.length c] w (JoinPost w (joinT ls)) := by
  have H := Lib.hid h
  have HF := Lib.hid hf
  have HNN := Lib.hid hn
  have FC := Lib.hid (refFormed_c A c ls w h hl hf hs hn)
  clear h hf hs hn
  go_enter Tryd.func22, Tryd.ntmps22
  go_wp2_with fail
  refine FC.out.mono ?_
  rintro e w1 ⟨rfl, q1, rfl⟩
  have hb1 : Below w.heap.size w (w.drewN q1) := below_drewN (Below.refl _ _) q1
  have H1 := Lib.hid (H.out.keep hb1)
  generalize w.drewN q1 = w1 at *
  clear H FC
  rcases hv : formed 0 ls with _ | _
  · have HX : Hid (joinT ls = .error 20) := Lib.hid (by unfold joinT; rw [hv]; rfl)
    clear hv
    go_wp2_with fail
    go_ret2
    exact ⟨hb1, by rw [HX.out]; rfl⟩
  · have HX : Hid (joinT ls = joinA 0 [] (ls.drop 0)) := Lib.hid (by unfold joinT; rw [hv]; rfl)
    have HV := Lib.hid hv
    clear hv
    go_wp2_with fail
    go_loop [4, 5, 6] (fun s nu i => ∃ (k : Nat) (last : Int) (acc : List UInt8), i = .int .i64 k ∧ nu = .int .i64 (last + 1) ∧ s = S acc ∧ k ≤ ls.length ∧ 0 ≤ last ∧ last ≤ (acc.length : Int) ∧ acc.length ≤ 6000 ∧ Hid (formed last (ls.drop k) = true) ∧ Hid (joinT ls = joinA last acc (ls.drop k))) (fun _ _ i => ls.length - (intOf i).toNat)
    case atStart => exact ⟨0, 0, [], rfl, rfl, rfl, Nat.zero_le _, by omega, by simp, by simp, HV, HX⟩
    case round =>
      obtain ⟨k, last, acc, rfl, rfl, rfl, hk, hla0, hla1, hacc, HFm, HJ⟩ := hrel
      by_cases hlt : k < ls.length
      · obtain ⟨b, o, A', c', rfl, e1, e2, hcap, hh⟩ := H1.out.line hlt
        have HH := Lib.hid hh
        clear hh
        have hfl := HF.out _ (List.getElem_mem hlt)
        have hnn := HNN.out _ (List.getElem_mem hlt)
        obtain ⟨hgt, hpos, hall, hfm⟩ := formed_facts hlt HFm.out
        have HALL := Lib.hid hall
        have HFM := Lib.hid hfm
        have hjl := join_length_le _ hall
        clear HFm hall hfm
        obtain ⟨hn1, hn2⟩ := hnn
        by_cases hgap : 6000 < ls[k].1 - (last + 1)
        · have HE := Lib.hid (HJ.out.trans (joinA_num hlt (by omega)))
          clear HJ HALL HFM HH hjl
          generalize ls[k] = x at *
          go_wp2_with fail
          go_ret2
          exact ⟨hb1, by rw [HE.out]; rfl⟩
        · obtain ⟨t, ht⟩ : ∃ t, t = acc ++ Lib.repeatL [10] (ls[k].1 - last - 1).toNat ++ Lib.join ls[k].2 [32] ++ [10] := ⟨_, rfl⟩
          have htl : ls[k].1 ≤ (t.length : Int) := by rw [ht]; simp [Lib.repeatL_length]; omega
          have HJ2 : Hid ((6000 < t.length → joinT ls = .error 1) ∧ (t.length ≤ 6000 → joinT ls = joinA ls[k].1 t (ls.drop (k + 1)))) := Lib.hid ⟨fun h => by
              by_cases hbig : 6000 < ls[k].1
              · exact HJ.out.trans (joinA_num hlt hbig)
              · exact HJ.out.trans (joinA_big hlt (by omega) ht h), fun h => HJ.out.trans (joinA_step hlt (by omega) ht h)⟩
          clear HJ
          generalize hx : ls[k] = x at *
          clear hx
          obtain ⟨n, fs⟩ := x
          dsimp only at *
          have HT := Lib.hid ht
          clear ht
          have WC := Lib.hid (refWords_c A' c' fs w1 HH.out hfl HALL.out)
          clear HH HALL
          generalize Lib.join fs [32] = jn at *
          go_wp2_with fail
          go_loop [4, 5] (fun s nu => ∃ q : Nat, (q : Int) ≤ n - last - 1 ∧ nu = .int .i64 (last + 1 + q) ∧ s = S (acc ++ Lib.repeatL [10] q)) (fun _ nu => (n - intOf nu).toNat)
          case atStart => exact ⟨0, by omega, by go_num, by simp [Lib.repeatL]⟩
          case round =>
            obtain ⟨q, hq, rfl, rfl⟩ := hrel
            have hrl : (acc ++ Lib.repeatL [10] q).length ≤ 12000 := by simp [Lib.repeatL_length]; omega
            by_cases hq2 : last + 1 + (q : Int) < n
            · have HN := Lib.hid (rep_next q acc)
              generalize acc ++ Lib.repeatL [10] q = s1 at *
              have hap := bapp2 s1 [10]
              go_wp2_with fail
              go_round
              case rel => exact ⟨q + 1, by omega, by go_num, by rw [HN.out]⟩
              case measure => simp [intOf]; omega
            · have hqn : q = (n - last - 1).toNat := by omega
              have hnu : last + 1 + (q : Int) = n := by omega
              have HT2 : Hid (t = acc ++ Lib.repeatL [10] q ++ jn ++ [10]) := Lib.hid (by rw [hqn]; exact HT.out)
              rw [hnu]
              clear HT hqn hnu hq2 hq
              generalize acc ++ Lib.repeatL [10] q = s1 at *
              have hap1 := bapp2 jn [10]
              have hap2 : (⟨s1.toArray⟩ : ByteArray) ++ ⟨(jn ++ [10]).toArray⟩ = ⟨t.toArray⟩ := by rw [bapp2, HT2.out, List.append_assoc]
              clear HT2
              go_wp2_with fail
              refine WC.out.mono ?_
              rintro e w' ⟨rfl, rfl⟩
              by_cases hbig : 6000 < t.length
              · have HE := Lib.hid (HJ2.out.1 hbig)
                go_wp2_with fail
                go_ret2
                exact ⟨hb1, by rw [HE.out]; rfl⟩
              · have HE := Lib.hid (HJ2.out.2 (by omega))
                go_wp2_with fail
                go_round
                case rel => exact ⟨k + 1, n, t, by go_num, by go_num, rfl, by omega, by omega, htl, by omega, HFM, HE⟩
                case measure => simp [intOf]; omega
      · have HE := Lib.hid (HJ.out.trans (joinA_end (by omega)))
        go_wp2_with fail
        go_ret2
        exact ⟨hb1, by rw [HE.out]; rfl⟩
end Go.Proofs.YtngapogkhpnieaaDoor

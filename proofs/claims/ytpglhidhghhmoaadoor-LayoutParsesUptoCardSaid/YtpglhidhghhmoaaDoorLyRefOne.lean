/- Contract of the reference's reading of one line as a declaration. -/
import Derived.Test.YtpglhidhghhmoaaDoorLyParse
import Derived.Test.YtpglhidhghhmoaaDoorLySmall
import Derived.Test.YtpglhidhghhmoaaDoorFdRefNum
import Derived.Deep.DeepCutAuto
namespace Go.Proofs.YtpglhidhghhmoaaDoor
open Go.RowKit Fl
attribute [local go_sem] bget

/-- In the midst of the reference's reading: the line's row, the result's, the declaration's row q, and what its two lists hold. -/
structure RefInv (w W : World) (n : Int) (A : Option Addr) (len c q : Nat) (k : Int) (nv xv : Value) (ns : List (List UInt8)) (xs : List Int) : Prop where
  rows : Rows1 w W n A len c
  decl : W.heap[q]? = some (.cells #[.int .i64 k, .int .i64 n, nv, xv] 53 (0, 0))
  names : W.ownsRow w.heap.size 9 1 nv ns.length (ns.map S)
  nums : W.ownsRow w.heap.size 3 1 xv xs.length (xs.map I)
theorem RefInv.keep {w W W' : World} {n : Int} {A : Option Addr} {len c q : Nat} {k : Int} {nv xv : Value} {ns : List (List UInt8)} {xs : List Int} (h : RefInv w W n A len c q k nv xv ns xs) (hb : Below W.heap.size W W') : RefInv w W' n A len c q k nv xv ns xs :=
  ⟨h.rows.keep hb, (hb.block _ (block_lt h.decl)).trans h.decl, ownsRow_below h.names hb, ownsRow_below h.nums hb⟩
theorem grown_rows1 {w W W' : World} {n : Int} {A : Option Addr} {len c : Nat} {row : Option Nat} (h : Rows1 w W n A len c) (hg : W.grownBy W' row) (h1 : row ≠ some w.heap.size) (h2 : row ≠ some (w.heap.size + 1)) (hr : ∀ k, row = some k → w.heap.size ≤ k) : Rows1 w W' n A len c :=
  ⟨h.below.grown hg h.below.size hr, (hg.block _ (block_lt h.line) (fun e => h1 e.symm)).trans h.line, (hg.block _ (block_lt h.decl) (fun e => h2 e.symm)).trans h.decl⟩
theorem set4_block {w : World} {X i : Nat} {cs : Array Value} {v : Value} {t : TypeId} (h : w.heap[X]? = some (.cells cs t (0, 0))) : (w.setCell ⟨X, i, none⟩ v).heap[X]? = some (.cells (cs.setIfInBounds i v) t (0, 0)) := by
  rw [setCell_eq_setRow w X i cs t (0, 0) v h]
  exact setRow_heap _ _ _ _ _ _ h
theorem RefInv.name {w W W7 : World} {n : Int} {A : Option Addr} {len c q : Nat} {k : Int} {nv xv v' : Value} {ns : List (List UInt8)} {xs : List Int} {s : List UInt8} {o : Obj} (h : RefInv w W n A len c q k nv xv ns xs) (hq : w.heap.size + 2 ≤ q)
    (hg : (W.alloc o).grownBy W7 nv.ownBlock) (own7 : W7.ownsRow w.heap.size 9 1 v' (ns.length + 1) (ns.map S ++ [S s])) : RefInv w (W7.setCell ⟨q, 2, none⟩ v') n A len c q k v' xv (ns ++ [s]) xs := by
  have h' := h.keep ((Below.refl _ W).alloc (Nat.le_refl _) o)
  have hq7 := (hg.block _ (block_lt h'.decl) (fun e => own_ne_block h'.names h'.decl (by decide) e.symm)).trans h'.decl
  have gs := grown_set W7 q 2 v'
  have hr7 := grown_rows1 h'.rows hg (fun e => own_ne_block h'.names h'.rows.line (by decide) e) (fun e => own_ne_block h'.names h'.rows.decl (by decide) e) (own_base h'.names)
  exact ⟨grown_rows1 hr7 gs (fun e => by injection e with e; omega) (fun e => by injection e with e; omega) (fun k hk => by injection hk with hk; omega), set4_block hq7, ownsRow_grownB (by simpa using own7) gs hq7 (by decide), ownsRow_grownB (ownsRow_apart h'.nums h'.names (by decide) hg) gs hq7 (by decide)⟩
theorem RefInv.num {w W W7 : World} {n : Int} {A : Option Addr} {len c q : Nat} {k : Int} {nv xv v' : Value} {ns : List (List UInt8)} {xs : List Int} {z : Int} {o : Obj} (h : RefInv w W n A len c q k nv xv ns xs) (hq : w.heap.size + 2 ≤ q)
    (hg : (W.alloc o).grownBy W7 xv.ownBlock) (own7 : W7.ownsRow w.heap.size 3 1 v' (xs.length + 1) (xs.map I ++ [I z])) : RefInv w (W7.setCell ⟨q, 3, none⟩ v') n A len c q k nv v' ns (xs ++ [z]) := by
  have h' := h.keep ((Below.refl _ W).alloc (Nat.le_refl _) o)
  have hq7 := (hg.block _ (block_lt h'.decl) (fun e => own_ne_block h'.nums h'.decl (by decide) e.symm)).trans h'.decl
  have gs := grown_set W7 q 3 v'
  have hr7 := grown_rows1 h'.rows hg (fun e => own_ne_block h'.nums h'.rows.line (by decide) e) (fun e => own_ne_block h'.nums h'.rows.decl (by decide) e) (own_base h'.nums)
  exact ⟨grown_rows1 hr7 gs (fun e => by injection e with e; omega) (fun e => by injection e with e; omega) (fun k hk => by injection hk with hk; omega), set4_block hq7, ownsRow_grownB (ownsRow_apart h'.names h'.nums (by decide) hg) gs hq7 (by decide), ownsRow_grownB (by simpa using own7) gs hq7 (by decide)⟩
theorem refOne_ret {W : World} {g : Nat} (cs : Array Value) (h : W.heap[g]? = some (.cells cs 53 (0, 0))) (hcs : cs.size = 4) (k : Value) (tmps : Array Value) (hp : tmps.getD 2 undef = .pointer (some ⟨g, 0, none⟩)) (hk : tmps.getD 3 undef = k) :
    (results Tryd.f21 tmps).run Tryd.prog W = .ok (.tuple #[.agg cs, k]) W := by
  subst hk
  exact results_cell_tmp rfl _ _ g 53 cs (0, 0) _ hp h Tryd.underlying53 rfl (by rw [hcs]; kernel_rfl)
theorem wrong_cases {k n : Nat} (h : wrongCount k n = false) : (n : Int) = (shapeN k : Int) + shapeX k ∨ (n : Int) ≠ (shapeN k : Int) + shapeX k ∧ k = 2 ∧ (shapeN k : Int) ≤ n := by
  unfold wrongCount at h
  simp only [decide_eq_false_iff_not, not_and, not_or, Decidable.not_not] at h
  by_cases e : n = shapeN k + shapeX k
  · left; omega
  · right; have := h e; omega
theorem right_cases {k n : Nat} (h : wrongCount k n = true) : (n : Int) ≠ (shapeN k : Int) + shapeX k ∧ (k ≠ 2 ∨ k = 2 ∧ (n : Int) < shapeN k) := by
  unfold wrongCount at h
  simp only [decide_eq_true_eq] at h
  omega
theorem parse1_readA {n : Int} {s : List UInt8} {r : List (List UInt8)} (h : wordOf s ≠ 0) (h2 : wrongCount (wordOf s) r.length = false) : parse1 (n, s :: r) = match readA (r.length - shapeX (wordOf s)) [] [] r with
    | .ok (ns, xs) => .ok ⟨wordOf s, n, ns, xs⟩
    | .error e => .error e := by
  simp only [parse1, h, h2, if_false, Bool.false_eq_true]
  rcases readA (r.length - shapeX (wordOf s)) [] [] r with e | ⟨ns, xs⟩ <;> rfl
set_option maxRecDepth 100000 in
set_option maxHeartbeats 8000000 in
theorem refOne_c (n : Int) (A : Option Addr) (c : Nat) (fs : List (List UInt8)) (w : World) (hh : Holds w A (fs.map S)) (hl : fs.length ≤ 8796093021952) (hs : ∀ f ∈ fs, f.length ≤ 9223372036854775000) :
    Calls Tryd.prog 21 #[.agg #[.int .i64 n, .slice A fs.length c]] w (OnePost w (parse1 (n, fs))) := by
  have HH := Lib.hid hh
  have HS := Lib.hid hs
  clear hh hs
  match fs with
  | [] =>
    have hR0 := Lib.hid (Rows1.start w n A 0 c)
    go_enter Tryd.func21, Tryd.ntmps21
    go_wp2
    refine bodyPost_ret (refOne_ret _ hR0.out.decl rfl _ _ rfl rfl) rfl ?_
    exact ⟨hR0.out.below, rfl⟩
  | s :: r =>
    have hsl := HS.out s (by simp)
    obtain ⟨b, o, rfl, e0⟩ := HH.out.str (k := 0) (by simp)
    simp only [List.getElem_cons_zero, Nat.add_zero] at e0
    have hR0 := Rows1.start w n (some ⟨b, o, none⟩) (r.length + 1) c
    have hs0 : ((w.alloc (.cells #[.int .i64 n, .slice (some ⟨b, o, none⟩) (r.length + 1) c] 58)).alloc (.cells zeroDecl 53)).heap.size = w.heap.size + 2 := by simp
    have e0' : ((w.alloc (.cells #[.int .i64 n, .slice (some ⟨b, o, none⟩) (r.length + 1) c] 58)).alloc (.cells zeroDecl 53)).cell? ⟨b, o, none⟩ = some (S s) := (hR0.below.cell (p := ⟨b, o, none⟩) (World.block_lt_of_cell? _ _ e0)).trans e0
    have hbw : b < w.heap.size := World.block_lt_of_cell? _ _ e0
    have hne0 : ((r.length : Int) + 1 == 0) = false := by rw [beq_eq_false_iff_ne]; omega
    have HC := Lib.hid (fun W => refWord_c s W (by unfold maxLen; omega))
    simp only [List.length_cons] at hl ⊢
    clear e0
    go_enter Tryd.func21, Tryd.ntmps21
    go_wp2_with fail
    generalize (w.alloc (.cells #[.int .i64 n, .slice (some ⟨b, o, none⟩) (r.length + 1) c] 58)).alloc (.cells zeroDecl 53) = W0 at *
    have HR0 := Lib.hid hR0
    have HS0 := Lib.hid hs0
    have c0 := hR0.c0
    have c1 := hR0.c1
    obtain ⟨kw, hkw⟩ : ∃ kw, kw = wordOf s := ⟨_, rfl⟩
    rw [← hkw] at HC
    have HK := Lib.hid hkw
    clear hR0 hs0 hkw
    go_cut [4] (fun v wx => v = .pointer (some ⟨w.heap.size + 2, 0, none⟩) ∧ Hid (RefInv w wx n (some ⟨b, o, none⟩) (r.length + 1) c (w.heap.size + 2) kw (.slice none 0 0) (.slice none 0 0) [] []))
    case first =>
      have hsz2 : w.heap.size + 2 = W0.heap.size := HS0.out.symm
      have c0a : ∀ ob, (W0.alloc ob).cell? ⟨w.heap.size, 0, none⟩ = some (.int .i64 n) := fun ob => (HR0.out.keep ((Below.refl _ W0).alloc (Nat.le_refl _) ob)).c0
      have c1a : ∀ ob, (W0.alloc ob).cell? ⟨w.heap.size, 1, none⟩ = some (.slice (some ⟨b, o, none⟩) (r.length + 1) c) := fun ob => (HR0.out.keep ((Below.refl _ W0).alloc (Nat.le_refl _) ob)).c1
      have e0a : ∀ ob, (W0.alloc ob).cell? ⟨b, o, none⟩ = some (S s) := fun ob => (((Below.refl _ W0).alloc (Nat.le_refl _) ob).cell (p := ⟨b, o, none⟩) (World.block_lt_of_cell? _ _ e0')).trans e0'
      have HZ := Lib.hid hsz2
      clear hsz2
      go_region_with (go_at_call 41; refine (HC.out _).mono ?_; rintro e w9 ⟨rfl, rfl⟩)
      all_goals
        go_wp2_with fail
        go_meet
        case rel =>
          refine ⟨by rw [HZ.out], Lib.hid ?_⟩
          have hb : ∀ ob, Below W0.heap.size W0 (W0.alloc ob) := fun ob => (Below.refl _ _).alloc (Nat.le_refl _) ob
          refine ⟨(HR0.out.keep (hb _)).keep (Below.refl _ _).drew, ?_, ⟨rfl, .inl ⟨rfl, rfl⟩⟩, ⟨rfl, .inl ⟨rfl, rfl⟩⟩⟩
          rw [HZ.out]
          exact heap_alloc_new W0 _
    case rest =>
      obtain ⟨rfl, HI⟩ := hcut
      clear e0' c0 c1 hne0 HC HR0 HS0
      have d0 : wc.cell? ⟨w.heap.size + 2, 0, none⟩ = some (.int .i64 kw) := by rw [cell_of_row wc _ 0 _ _ _ HI.out.decl]; rfl
      have c1 := HI.out.rows.c1
      by_cases hk0 : kw = 0
      · have HR : Hid (parse1 (n, s :: r) = .error 4) := Lib.hid (parse1_word (HK.out.symm.trans hk0))
        subst hk0
        clear c1
        go_wp2_with (refine wpList_store_row rfl 53 _ _ rfl (w.heap.size + 1) _ rfl rfl 53 zeroDecl HI.out.rows.decl (by kernel_rfl) rfl (by kernel_rfl) ?_)
        refine bodyPost_ret (refOne_ret _ (setRow_heap _ _ _ _ _ _ HI.out.rows.decl) rfl _ _ rfl rfl) rfl ?_
        exact ⟨below_setRow HI.out.rows.below (by omega) _, by rw [HR.out]; rfl⟩
      · have hkn : wordOf s ≠ 0 := fun e => hk0 (HK.out.trans e)
        have hkb : ((kw : Int) == 0) = false := by rw [beq_eq_false_iff_ne]; omega
        have hX4 := shapeX_le kw
        have hN3 := shapeN_le kw
        have HSH := Lib.hid (refShape_c kw wc)
        have HWT := Lib.hid (fun h => (right_cases (k := kw) (n := r.length) h))
        have HWF := Lib.hid (fun h => (wrong_cases (k := kw) (n := r.length) h))
        have HPE : Hid (wrongCount kw r.length = true → parse1 (n, s :: r) = .error 5) := Lib.hid (fun h => by
          rw [HK.out] at h
          simp [parse1, hkn, h])
        have HPR : Hid (wrongCount kw r.length = false → shapeX kw ≤ r.length ∧ parse1 (n, s :: r) = match readA (r.length - shapeX kw) [] [] r with
          | .ok (ns, xs) => .ok ⟨kw, n, ns, xs⟩
          | .error e => .error e) := Lib.hid (fun h => ⟨count_ge h, by rw [HK.out] at h ⊢; exact parse1_readA hkn h⟩)
        generalize shapeN kw = NN at *
        generalize shapeX kw = X at *
        clear hkn hk0
        go_wp2_with fail
        refine HSH.out.mono ?_
        rintro e w9 ⟨rfl, rfl⟩
        clear HSH
        rcases Bool.eq_false_or_eq_true (wrongCount kw r.length) with hw | hw
        · have HR := Lib.hid (HPE.out hw)
          obtain ⟨h1, h2⟩ := HWT.out hw
          have hb1 : ((r.length : Int) != (NN : Int) + (X : Int)) = true := by rw [bne_iff_ne]; omega
          clear HPE HPR HWT HWF hw
          rcases h2 with h2 | ⟨h2, h3⟩
          · have hb2 : ((kw : Int) != 2) = true := by rw [bne_iff_ne]; omega
            clear h1 h2
            go_wp2_with (refine wpList_store_row rfl 53 _ _ rfl (w.heap.size + 1) _ rfl rfl 53 zeroDecl HI.out.rows.decl (by kernel_rfl) rfl (by kernel_rfl) ?_)
            refine bodyPost_ret (refOne_ret _ (setRow_heap _ _ _ _ _ _ HI.out.rows.decl) rfl _ _ rfl rfl) rfl ?_
            exact ⟨below_setRow HI.out.rows.below (by omega) _, by rw [HR.out]; rfl⟩
          · have hb2 : ((kw : Int) != 2) = false := by rw [h2]; rfl
            have hb3 : decide ((r.length : Int) < (NN : Int)) = true := decide_eq_true h3
            clear h1 h2
            go_wp2_with (refine wpList_store_row rfl 53 _ _ rfl (w.heap.size + 1) _ rfl rfl 53 zeroDecl HI.out.rows.decl (by kernel_rfl) rfl (by kernel_rfl) ?_)
            refine bodyPost_ret (refOne_ret _ (setRow_heap _ _ _ _ _ _ HI.out.rows.decl) rfl _ _ rfl rfl) rfl ?_
            exact ⟨below_setRow HI.out.rows.below (by omega) _, by rw [HR.out]; rfl⟩
        · obtain ⟨hXr, hR⟩ := HPR.out hw
          have HR := Lib.hid hR
          have hcase := HWF.out hw
          clear HPE HPR HWT HWF hw hR
          go_upto_region 8 with fail
          go_cut [53] (fun v wx => v = .bool false ∧ wx = wc)
          case first =>
            rcases hcase with h1 | ⟨h1, h2, h3⟩
            · have hb1 : ((r.length : Int) != (NN : Int) + (X : Int)) = false := by rw [h1]; simp
              clear h1
              go_wp2_with fail
              go_meet
              case rel => exact ⟨rfl, rfl⟩
            · have hb1 : ((r.length : Int) != (NN : Int) + (X : Int)) = true := by rw [bne_iff_ne]; exact h1
              have hb2 : ((kw : Int) != 2) = false := by rw [h2]; rfl
              have h4 : ¬ r.length < NN := by omega
              clear h1 h2 h3
              go_wp2_with fail
              go_meet
              case rel => exact ⟨congrArg Value.bool (by first | rfl | exact decide_eq_false h4 | (simp; omega)), rfl⟩
          case rest =>
            rename_i wc2
            obtain ⟨rfl, rfl⟩ := hcut
            obtain ⟨m, hm⟩ : ∃ m, m = r.length - X := ⟨_, rfl⟩
            have hmX : (r.length : Int) - X = (m : Int) := by omega
            have hmle : m ≤ r.length := by omega
            rw [← hm] at HR
            clear hcase hm
            go_wp2_with fail
            go_loopw [8] (fun i wr => ∃ (j : Nat) (nv xv : Value) (ns : List (List UInt8)) (xs : List Int), i = .int .i64 j ∧ j ≤ r.length ∧ ns.length ≤ j ∧ xs.length ≤ j ∧ Hid (readA m [] [] r = readA (m - j) ns xs (r.drop j)) ∧ Hid (RefInv w wr n (some ⟨b, o, none⟩) (r.length + 1) c (w.heap.size + 2) kw nv xv ns xs)) (fun i _ => r.length - (intOf i).toNat)
            case atStart => exact ⟨0, _, _, [], [], rfl, Nat.zero_le _, by simp, by simp, Lib.hid rfl, HI⟩
            case round =>
              clear HI d0 c1
              obtain ⟨j, nv, xv, ns, xs, rfl, hj, hnl, hxl, HA, HI⟩ := hrel
              have c1 := HI.out.rows.c1
              by_cases hlt : j < r.length
              · obtain ⟨b', o', hbo, ej⟩ := (HH.out.keep HI.out.rows.below).str (k := 1 + j) (by simp; omega)
                injection hbo with hbo
                injection hbo with hb1 hb2
                subst hb1 hb2
                have hx : (s :: r)[1 + j]'(by simp; omega) = r[j] := by simp [Nat.add_comm 1 j]
                rw [hx] at ej
                have hfl := HS.out r[j] (List.mem_cons_of_mem _ (List.getElem_mem hlt))
                obtain ⟨A1, c1n, hv1⟩ := own_slice HI.out.names
                obtain ⟨A2, c2, hv2⟩ := own_slice HI.out.nums
                subst hv1 hv2
                have d2 : wr.cell? ⟨w.heap.size + 2, 2, none⟩ = some (.slice A1 ns.length c1n) := by rw [cell_of_row wr _ 2 _ _ _ HI.out.decl]; rfl
                have d3 : wr.cell? ⟨w.heap.size + 2, 3, none⟩ = some (.slice A2 xs.length c2) := by rw [cell_of_row wr _ 3 _ _ _ HI.out.decl]; rfl
                by_cases hjm : j < m
                · have hmj : m - j = (m - (j + 1)) + 1 := by omega
                  have HN := Lib.hid (fun W => refName_c r[j] W (by unfold maxLen; omega))
                  rcases hn : name r[j] with _ | _
                  · have HR2 : Hid (parse1 (n, s :: r) = .error 6) := Lib.hid (by rw [HR.out, HA.out, hmj, readA_noname hlt hn])
                    rw [hn] at HN
                    clear hn hx hmj HA
                    generalize r[j] = x at *
                    go_wp2_with (first | (go_at_call 36; refine (HN.out _).mono ?_; rintro e w' ⟨rfl, rfl⟩) | (refine wpList_store_row rfl 53 _ _ rfl (w.heap.size + 1) _ rfl rfl 53 zeroDecl HI.out.rows.decl (by kernel_rfl) rfl (by kernel_rfl) ?_))
                    refine bodyPost_ret (refOne_ret _ (setRow_heap _ _ _ _ _ _ HI.out.rows.decl) rfl _ _ rfl rfl) rfl ?_
                    exact ⟨below_setRow HI.out.rows.below (by omega) _, by rw [HR2.out]; rfl⟩
                  · have HA2 : Hid (readA m [] [] r = readA (m - (j + 1)) (ns ++ [r[j]]) xs (r.drop (j + 1))) := Lib.hid (HA.out.trans (by rw [hmj]; exact readA_name hlt hn))
                    rw [hn] at HN
                    clear hn hx hmj HA
                    generalize r[j] = x at *
                    obtain ⟨ti, hti, hz0, hz1, hz2⟩ := info_parts Tryd.infoString
                    go_wp2_with (first | (go_at_call 36; refine (HN.out _).mono ?_; rintro e w' ⟨rfl, rfl⟩) | (at_builtin; refine wpList_append_own _ rfl _ _ 51 rfl w.heap.size 9 ti (.string ByteArray.empty) 1 16 Tryd.underlying51 hti hz0 hz1 hz2 rfl (by decide) _ _ _ rfl (HI.out.names.alloc _) ⟨wr.heap.size, 0, none⟩ 1 1 [S x] rfl rfl ?c1 ?c2 ?c3 ?c4 ?c5 ?_))
                    case c1 =>
                      intro i u hu
                      rcases i with _ | i
                      · simp at hu; subst hu; simp [go_sem]
                      · simp at hu
                    case c2 => intro u hu; simp at hu; subst hu; rfl
                    case c3 => unfold maxLen; omega
                    case c4 => omega
                    case c5 => have := HI.out.rows.below.size; simp; omega
                    intro v' w7 own7 hg7 _
                    obtain ⟨A7, c7, rfl⟩ := own_slice own7
                    have hi7 := HI.out.keep ((Below.refl _ wr).alloc (Nat.le_refl _) (.cells #[S x] 9))
                    have hq7 := (hg7.block _ (block_lt hi7.decl) (fun e => own_ne_block hi7.names hi7.decl (by decide) e.symm)).trans hi7.decl
                    have y7 : w7.cell? ⟨w.heap.size + 2, 2, none⟩ = some (.slice A1 ns.length c1n) := by rw [cell_of_row w7 _ 2 _ _ _ hq7]; rfl
                    have z7 : w7.frozen? ⟨w.heap.size + 2, 2, none⟩ = false := by simp [World.frozen?, hq7]
                    have HI7 := Lib.hid (HI.out.name (Nat.le_refl _) hg7 own7)
                    clear own7 hg7 hi7 hq7 hti hz0 hz1 hz2 HI
                    go_wp2
                    go_roundw
                    case rel => exact ⟨j + 1, _, _, ns ++ [x], xs, by go_num, by omega, by simp; omega, by omega, HA2, HI7⟩
                    case measure => simp [intOf]; omega
                · have hmj : m - j = 0 := by omega
                  have HN := Lib.hid (fun W => refNumber_c r[j] W hfl)
                  rcases hn : num r[j] with _ | z
                  · have HR2 : Hid (parse1 (n, s :: r) = .error 7) := Lib.hid (by rw [HR.out, HA.out, hmj, readA_nonum hlt hn])
                    rw [hn, show ret2 none = .tuple #[.int .i64 0, .bool false] from rfl] at HN
                    clear hn hx hmj HA
                    generalize r[j] = x at *
                    go_wp2_with (first | (go_at_call 42; refine (HN.out _).mono ?_; rintro e w' ⟨rfl, rfl⟩) | (refine wpList_store_row rfl 53 _ _ rfl (w.heap.size + 1) _ rfl rfl 53 zeroDecl HI.out.rows.decl (by kernel_rfl) rfl (by kernel_rfl) ?_))
                    refine bodyPost_ret (refOne_ret _ (setRow_heap _ _ _ _ _ _ HI.out.rows.decl) rfl _ _ rfl rfl) rfl ?_
                    exact ⟨below_setRow HI.out.rows.below (by omega) _, by rw [HR2.out]; rfl⟩
                  · have HA2 : Hid (readA m [] [] r = readA (m - (j + 1)) ns (xs ++ [z]) (r.drop (j + 1))) := Lib.hid (HA.out.trans (by rw [hmj, show m - (j + 1) = 0 by omega]; exact readA_num hlt hn))
                    rw [hn, show ret2 (some z) = .tuple #[.int .i64 z, .bool true] from rfl] at HN
                    clear hn hx hmj HA
                    generalize r[j] = x at *
                    obtain ⟨ti, hti, hz0, hz1, hz2⟩ := info_parts Tryd.infoInt
                    go_wp2_with (first | (go_at_call 42; refine (HN.out _).mono ?_; rintro e w' ⟨rfl, rfl⟩) | (at_builtin; refine wpList_append_own _ rfl _ _ 23 rfl w.heap.size 3 ti (.int .i64 0) 1 8 Tryd.underlying23 hti hz0 hz1 hz2 rfl (by decide) _ _ _ rfl (HI.out.nums.alloc _) ⟨wr.heap.size, 0, none⟩ 1 1 [I z] rfl rfl ?c1 ?c2 ?c3 ?c4 ?c5 ?_))
                    case c1 =>
                      intro i u hu
                      rcases i with _ | i
                      · simp at hu; subst hu; simp [go_sem]
                      · simp at hu
                    case c2 => intro u hu; simp at hu; subst hu; rfl
                    case c3 => unfold maxLen; omega
                    case c4 => omega
                    case c5 => have := HI.out.rows.below.size; simp; omega
                    intro v' w7 own7 hg7 _
                    obtain ⟨A7, c7, rfl⟩ := own_slice own7
                    have hi7 := HI.out.keep ((Below.refl _ wr).alloc (Nat.le_refl _) (.cells #[I z] 3))
                    have hq7 := (hg7.block _ (block_lt hi7.decl) (fun e => own_ne_block hi7.nums hi7.decl (by decide) e.symm)).trans hi7.decl
                    have y7 : w7.cell? ⟨w.heap.size + 2, 3, none⟩ = some (.slice A2 xs.length c2) := by rw [cell_of_row w7 _ 3 _ _ _ hq7]; rfl
                    have z7 : w7.frozen? ⟨w.heap.size + 2, 3, none⟩ = false := by simp [World.frozen?, hq7]
                    have HI7 := Lib.hid (HI.out.num (Nat.le_refl _) hg7 own7)
                    clear own7 hg7 hi7 hq7 hti hz0 hz1 hz2 HI
                    go_wp2
                    go_roundw
                    case rel => exact ⟨j + 1, _, _, ns, xs ++ [z], by go_num, by omega, by omega, by simp; omega, HA2, HI7⟩
                    case measure => simp [intOf]; omega
              · have HR2 : Hid (parse1 (n, s :: r) = .ok ⟨kw, n, ns, xs⟩) := Lib.hid (by rw [HR.out, HA.out, readA_end (by omega)])
                obtain ⟨A1, c1n, hv1⟩ := own_slice HI.out.names
                obtain ⟨A2, c2, hv2⟩ := own_slice HI.out.nums
                subst hv1 hv2
                clear HA c1
                go_wp2_with (first | (refine wpList_load_row rfl 53 _ rfl (w.heap.size + 2) rfl 53 _ (0, 0) _ HI.out.decl Tryd.underlying53 rfl (by kernel_rfl) ?_) | (refine wpList_store_row rfl 53 _ _ rfl (w.heap.size + 1) _ rfl rfl 53 zeroDecl HI.out.rows.decl (by kernel_rfl) rfl (by kernel_rfl) ?_))
                refine bodyPost_ret (refOne_ret _ (setRow_heap _ _ _ _ _ _ HI.out.rows.decl) rfl _ _ rfl rfl) rfl ?_
                refine ⟨below_setRow HI.out.rows.below (by omega) _, ?_⟩
                rw [HR2.out]
                refine ⟨_, _, rfl, ?_, ?_⟩
                · exact ownsRow_grownB HI.out.names (grown_row _ _ _) HI.out.rows.decl (by decide)
                · exact ownsRow_grownB HI.out.nums (grown_row _ _ _) HI.out.rows.decl (by decide)
end Go.Proofs.YtpglhidhghhmoaaDoor

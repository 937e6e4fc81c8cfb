/- Joined texts. -/
import Derived.Test.YtmdnkpiihhaoeaaNmRgA
import Derived.Test.YtmdnkpiihhaoeaaNmRgB
import Derived.Test.YtmdnkpiihhaoeaaNmRgC
import Derived.Test.YtmdnkpiihhaoeaaMzAK
namespace Go.Proofs.Ytmdnkpiihhaoeaa
open Go Go.RowKit Fl

theorem netSpur (w wr : World) (B gt T G0 b cb cn cs m : Nat) (z : Int) (Ab An As : Option Addr) (l : List BlockD) (g : GraphD) (ls : List SpurD) (u1 u2 u3 u4 u6 u7 u9 u11 u12 u13 u14 u15 u16 u17 u18 u19 u20 u21 u22 u23 u24 u25 u26 u27 u28 u29 u30 u31 u32 u33 u34 u35 u36 u37 u38 u39 u40 u41 u42 u43 u44 u45 u46 u47 u48 u49 u50 u51 u52 u53 u54 u55 u56 u57 u58 u59 u60 u61 u62 u63 u64 u65 u66 u67 u68 u69 u70 u71 u72 u73 u74 u75 u76 u77 u78 u79 u80 u81 u82 u83 u84 u85 u86 u87 u88 u89 u90 u91 u92 u93 u94 u95 u96 u97 u98 u99 u100 u101 u102 u103 u104 u105 u106 u107 u108 u109 u110 u111 u112 u113 u114 u115 u116 u117 u118 u119 u120 u121 u122 u123 u124 u125 u126 u127 u128 u129 u130 u131 u132 u133 u134 u135 u136 u137 u138 u139 u140 u141 u142 u143 u144 u145 u146 u147 u148 u149 u150 u151 u152 u153 u154 u155 u156 u157 u158 u159 u160 u161 u162 u163 u164 u165 u166 u167 u168 u169 u170 u171 u172 u173 u174 u175 u176 u177 u178 u179 u180 u181 u182 u183 u184 u185 u186 u187 u188 u189 u190 : Value) (Q : Exit → Act → World → Prop) (hT : T ≤ 900000) (hlb : l.length = b) (hb : 1 ≤ b ∧ b ≤ 8) (hm5 : m < 5) (hH : NS w B gt T G0 (G0 + 1) (G0 + 2) ⟨l, g, ls, [], 0, 0, 0, 0⟩ Ab An As none cb cn cs 0 wr)
    (hQ : ∀ (Y : Nat) (s : SpurD) (W : World) (v65 v66 v67 v68 v69 v70 v71 v72 v73 v74 v75 v76 v77 v78 v79 v80 v81 v82 v83 v84 v85 v86 v87 v88 v89 v90 v91 v92 v93 : Value), s.name = snm m → SpurOk b s → s.base = z → (m = 0 → s.depot = true) → Hid (W.heap[Y]? = some (.cells #[Sv s.name, Bo s.depot, Iv s.inn, Iv s.out, Iv s.slots, Iv s.base] 66 (0, 0))) → Hid (NS w B gt (T + 5) G0 (G0 + 1) (G0 + 2) ⟨l, g, ls, [], 0, 0, 0, 0⟩ Ab An As none cb cn cs 0 W) → Q .normal (⟨#[.pointer (some ⟨gt, 0, none⟩), u1, u2, u3, u4, .pointer (some ⟨G0 + 1, 0, none⟩), u6, u7, .int .i64 z, u9, .int .i64 (m : Int), .pointer (some ⟨Y, 0, none⟩), u12, u13, u14, u15, u16, u17, u18, u19, u20, u21, u22, u23, u24, u25, u26, u27, u28, u29, u30, u31, u32, u33, u34, u35, u36, u37, u38, u39, u40, u41, u42, u43, u44, u45, u46, u47, u48, u49, u50, u51, u52, u53, u54, u55, u56, u57, u58, u59, u60, u61, u62, u63, u64, v65, v66, v67, v68, v69, v70, v71, v72, v73, v74, v75, v76, v77, v78, v79, v80, v81, v82, v83, v84, v85, v86, v87, v88, v89, v90, v91, v92, v93, u94, u95, u96, u97, u98, u99, u100, u101, u102, u103, u104, u105, u106, u107, u108, u109, u110, u111, u112, u113, u114, u115, u116, u117, u118, u119, u120, u121, u122, u123, u124, u125, u126, u127, u128, u129, u130, u131, u132, u133, u134, u135, u136, u137, u138, u139, u140, u141, u142, u143, u144, u145, u146, u147, u148, u149, u150, u151, u152, u153, u154, u155, u156, u157, u158, u159, u160, u161, u162, u163, u164, u165, u166, u167, u168, u169, u170, u171, u172, u173, u174, u175, u176, u177, u178, u179, u180, u181, u182, u183, u184, u185, u186, u187, u188, u189, u190], []⟩ : Act) W) :
    (Code.region 14 #[{ dst := some 65, op := Op.move (Operand.tmp 10), type := 3, pos := "made.go:191", after := #[], guard := none }, { dst := some 66, op := Op.call { callee := Callee.value (Operand.func 43), args := #[Operand.tmp 65], argTypes := #[3] }, type := 9, pos := "made.go:191", after := #[{ on := 0, ground := Ground.data }], guard := none }, { dst := some 67, op := Op.binOp BinOp.add 9 (Operand.const (Value.string { data := #[115] })) (Operand.tmp 66) 9, type := 9, pos := "made.go:191", after := #[{ on := 1, ground := Ground.data }], guard := none }, { dst := some 68, op := Op.move (Operand.tmp 10), type := 3, pos := "made.go:191", after := #[], guard := none }, { dst := some 69, op := Op.binOp BinOp.eql 3 (Operand.tmp 68) (Operand.const (Value.int IntKind.i64 0)) 3, type := 4, pos := "made.go:191", after := #[{ on := 3, ground := Ground.data }], guard := none }, { dst := some 70, op := Op.move (Operand.tmp 69), type := 4, pos := "made.go:191", after := #[{ on := 4, ground := Ground.data }, { on := 1, ground := Ground.chain }], guard := none }, { dst := some 71, op := Op.move (Operand.tmp 10), type := 3, pos := "made.go:191", after := #[{ on := 5, ground := Ground.guard }], guard := some (5, false) }, { dst := some 72, op := Op.binOp BinOp.gtr 3 (Operand.tmp 71) (Operand.const (Value.int IntKind.i64 2)) 3, type := 4, pos := "made.go:191", after := #[{ on := 6, ground := Ground.data }, { on := 5, ground := Ground.guard }], guard := some (5, false) }, { dst := some 73, op := Op.move (Operand.tmp 72), type := 4, pos := "made.go:191", after := #[{ on := 7, ground := Ground.data }, { on := 5, ground := Ground.chain }, { on := 5, ground := Ground.guard }], guard := some (5, false) }, { dst := some 74, op := Op.move (Operand.tmp 0), type := 38, pos := "made.go:191", after := #[{ on := 8, ground := Ground.guard }], guard := some (8, true) }, { dst := some 75, op := Op.call { callee := Callee.value (Operand.func 11), args := #[Operand.tmp 74, Operand.const (Value.int IntKind.i64 2)], argTypes := #[38, 3] }, type := 3, pos := "made.go:191", after := #[{ on := 9, ground := Ground.data }, { on := 8, ground := Ground.chain }, { on := 8, ground := Ground.guard }], guard := some (8, true) }, { dst := some 76, op := Op.binOp BinOp.eql 3 (Operand.tmp 75) (Operand.const (Value.int IntKind.i64 0)) 3, type := 4, pos := "made.go:191", after := #[{ on := 10, ground := Ground.data }, { on := 8, ground := Ground.guard }], guard := some (8, true) }, { dst := some 77, op := Op.pick (Operand.tmp 73) (Operand.tmp 76) (Operand.const (Value.bool false)), type := 4, pos := "made.go:191", after := #[{ on := 8, ground := Ground.data }, { on := 11, ground := Ground.data }, { on := 5, ground := Ground.guard }], guard := some (5, false) }, { dst := some 78, op := Op.pick (Operand.tmp 70) (Operand.const (Value.bool true)) (Operand.tmp 77), type := 4, pos := "made.go:191", after := #[{ on := 5, ground := Ground.data }, { on := 12, ground := Ground.data }], guard := none }, { dst := some 79, op := Op.move (Operand.tmp 0), type := 38, pos := "made.go:191", after := #[], guard := none }, { dst := some 80, op := Op.fieldAddr 29 (Operand.tmp 5) 0, type := 0, pos := "made.go:191", after := #[], guard := none }, { dst := some 81, op := Op.load 22 (Operand.tmp 80), type := 22, pos := "made.go:191", after := #[{ on := 15, ground := Ground.data }], guard := none }, { dst := some 82, op := Op.call { callee := Callee.builtin Builtin.len, args := #[Operand.tmp 81], argTypes := #[22] }, type := 3, pos := "made.go:191", after := #[{ on := 16, ground := Ground.data }], guard := none }, { dst := some 83, op := Op.call { callee := Callee.value (Operand.func 11), args := #[Operand.tmp 79, Operand.tmp 82], argTypes := #[38, 3] }, type := 3, pos := "made.go:191", after := #[{ on := 14, ground := Ground.data }, { on := 17, ground := Ground.data }, { on := 10, ground := Ground.chain }], guard := none }, { dst := some 84, op := Op.move (Operand.tmp 0), type := 38, pos := "made.go:191", after := #[], guard := none }, { dst := some 85, op := Op.fieldAddr 29 (Operand.tmp 5) 0, type := 0, pos := "made.go:191", after := #[], guard := none }, { dst := some 86, op := Op.load 22 (Operand.tmp 85), type := 22, pos := "made.go:191", after := #[{ on := 20, ground := Ground.data }], guard := none }, { dst := some 87, op := Op.call { callee := Callee.builtin Builtin.len, args := #[Operand.tmp 86], argTypes := #[22] }, type := 3, pos := "made.go:191", after := #[{ on := 21, ground := Ground.data }], guard := none }, { dst := some 88, op := Op.call { callee := Callee.value (Operand.func 11), args := #[Operand.tmp 84, Operand.tmp 87], argTypes := #[38, 3] }, type := 3, pos := "made.go:191", after := #[{ on := 19, ground := Ground.data }, { on := 22, ground := Ground.data }, { on := 18, ground := Ground.chain }], guard := none }, { dst := some 89, op := Op.move (Operand.tmp 0), type := 38, pos := "made.go:191", after := #[], guard := none }, { dst := some 90, op := Op.call { callee := Callee.value (Operand.func 11), args := #[Operand.tmp 89, Operand.const (Value.int IntKind.i64 3)], argTypes := #[38, 3] }, type := 3, pos := "made.go:191", after := #[{ on := 24, ground := Ground.data }, { on := 23, ground := Ground.chain }], guard := none }, { dst := some 91, op := Op.binOp BinOp.add 3 (Operand.const (Value.int IntKind.i64 1)) (Operand.tmp 90) 3, type := 3, pos := "made.go:191", after := #[{ on := 25, ground := Ground.data }], guard := none }, { dst := some 92, op := Op.move (Operand.tmp 8), type := 3, pos := "made.go:191", after := #[], guard := none }, { dst := some 93, op := Op.build 66 #[(0, Operand.tmp 67), (1, Operand.tmp 78), (2, Operand.tmp 83), (3, Operand.tmp 88), (4, Operand.tmp 91), (5, Operand.tmp 92)], type := 66, pos := "made.go:191", after := #[{ on := 2, ground := Ground.data }, { on := 13, ground := Ground.data }, { on := 18, ground := Ground.data }, { on := 23, ground := Ground.data }, { on := 26, ground := Ground.data }, { on := 27, ground := Ground.data }], guard := none }, { dst := some 11, op := Op.alloc 66, type := 0, pos := "made.go:191", after := #[], guard := none }, { dst := none, op := Op.store 66 (Operand.tmp 11) (Operand.tmp 93), type := 0, pos := "made.go:191", after := #[{ on := 29, ground := Ground.data }, { on := 28, ground := Ground.data }, { on := 25, ground := Ground.chain }, { on := 0, ground := Ground.phase }, { on := 1, ground := Ground.phase }, { on := 2, ground := Ground.phase }, { on := 3, ground := Ground.phase }, { on := 4, ground := Ground.phase }, { on := 5, ground := Ground.phase }, { on := 6, ground := Ground.phase }, { on := 7, ground := Ground.phase }, { on := 8, ground := Ground.phase }, { on := 9, ground := Ground.phase }, { on := 10, ground := Ground.phase }, { on := 11, ground := Ground.phase }, { on := 12, ground := Ground.phase }, { on := 13, ground := Ground.phase }, { on := 14, ground := Ground.phase }, { on := 15, ground := Ground.phase }, { on := 16, ground := Ground.phase }, { on := 17, ground := Ground.phase }, { on := 18, ground := Ground.phase }, { on := 19, ground := Ground.phase }, { on := 20, ground := Ground.phase }, { on := 21, ground := Ground.phase }, { on := 22, ground := Ground.phase }, { on := 23, ground := Ground.phase }, { on := 24, ground := Ground.phase }, { on := 25, ground := Ground.phase }, { on := 26, ground := Ground.phase }, { on := 27, ground := Ground.phase }, { on := 28, ground := Ground.phase }, { on := 29, ground := Ground.phase }], guard := none }] true).wp Try.prog Q ⟨#[.pointer (some ⟨gt, 0, none⟩), u1, u2, u3, u4, .pointer (some ⟨G0 + 1, 0, none⟩), u6, u7, .int .i64 z, u9, .int .i64 (m : Int), u11, u12, u13, u14, u15, u16, u17, u18, u19, u20, u21, u22, u23, u24, u25, u26, u27, u28, u29, u30, u31, u32, u33, u34, u35, u36, u37, u38, u39, u40, u41, u42, u43, u44, u45, u46, u47, u48, u49, u50, u51, u52, u53, u54, u55, u56, u57, u58, u59, u60, u61, u62, u63, u64, u65, u66, u67, u68, u69, u70, u71, u72, u73, u74, u75, u76, u77, u78, u79, u80, u81, u82, u83, u84, u85, u86, u87, u88, u89, u90, u91, u92, u93, u94, u95, u96, u97, u98, u99, u100, u101, u102, u103, u104, u105, u106, u107, u108, u109, u110, u111, u112, u113, u114, u115, u116, u117, u118, u119, u120, u121, u122, u123, u124, u125, u126, u127, u128, u129, u130, u131, u132, u133, u134, u135, u136, u137, u138, u139, u140, u141, u142, u143, u144, u145, u146, u147, u148, u149, u150, u151, u152, u153, u154, u155, u156, u157, u158, u159, u160, u161, u162, u163, u164, u165, u166, u167, u168, u169, u170, u171, u172, u173, u174, u175, u176, u177, u178, u179, u180, u181, u182, u183, u184, u185, u186, u187, u188, u189, u190], []⟩ wr := by
  rcases Nat.eq_zero_or_pos m with h | h
  · subst h
    exact netSpurA w wr B gt T G0 b cb cn cs z Ab An As l g ls u1 u2 u3 u4 u6 u7 u9 u11 u12 u13 u14 u15 u16 u17 u18 u19 u20 u21 u22 u23 u24 u25 u26 u27 u28 u29 u30 u31 u32 u33 u34 u35 u36 u37 u38 u39 u40 u41 u42 u43 u44 u45 u46 u47 u48 u49 u50 u51 u52 u53 u54 u55 u56 u57 u58 u59 u60 u61 u62 u63 u64 u65 u66 u67 u68 u69 u70 u71 u72 u73 u74 u75 u76 u77 u78 u79 u80 u81 u82 u83 u84 u85 u86 u87 u88 u89 u90 u91 u92 u93 u94 u95 u96 u97 u98 u99 u100 u101 u102 u103 u104 u105 u106 u107 u108 u109 u110 u111 u112 u113 u114 u115 u116 u117 u118 u119 u120 u121 u122 u123 u124 u125 u126 u127 u128 u129 u130 u131 u132 u133 u134 u135 u136 u137 u138 u139 u140 u141 u142 u143 u144 u145 u146 u147 u148 u149 u150 u151 u152 u153 u154 u155 u156 u157 u158 u159 u160 u161 u162 u163 u164 u165 u166 u167 u168 u169 u170 u171 u172 u173 u174 u175 u176 u177 u178 u179 u180 u181 u182 u183 u184 u185 u186 u187 u188 u189 u190 Q hT hlb hb hH hQ
  · rcases Nat.lt_or_ge 2 m with h2 | h2
    · exact netSpurC w wr B gt T G0 b cb cn cs m z Ab An As l g ls u1 u2 u3 u4 u6 u7 u9 u11 u12 u13 u14 u15 u16 u17 u18 u19 u20 u21 u22 u23 u24 u25 u26 u27 u28 u29 u30 u31 u32 u33 u34 u35 u36 u37 u38 u39 u40 u41 u42 u43 u44 u45 u46 u47 u48 u49 u50 u51 u52 u53 u54 u55 u56 u57 u58 u59 u60 u61 u62 u63 u64 u65 u66 u67 u68 u69 u70 u71 u72 u73 u74 u75 u76 u77 u78 u79 u80 u81 u82 u83 u84 u85 u86 u87 u88 u89 u90 u91 u92 u93 u94 u95 u96 u97 u98 u99 u100 u101 u102 u103 u104 u105 u106 u107 u108 u109 u110 u111 u112 u113 u114 u115 u116 u117 u118 u119 u120 u121 u122 u123 u124 u125 u126 u127 u128 u129 u130 u131 u132 u133 u134 u135 u136 u137 u138 u139 u140 u141 u142 u143 u144 u145 u146 u147 u148 u149 u150 u151 u152 u153 u154 u155 u156 u157 u158 u159 u160 u161 u162 u163 u164 u165 u166 u167 u168 u169 u170 u171 u172 u173 u174 u175 u176 u177 u178 u179 u180 u181 u182 u183 u184 u185 u186 u187 u188 u189 u190 Q hT hlb hb h2 hm5 hH hQ
    · exact netSpurB w wr B gt T G0 b cb cn cs m z Ab An As l g ls u1 u2 u3 u4 u6 u7 u9 u11 u12 u13 u14 u15 u16 u17 u18 u19 u20 u21 u22 u23 u24 u25 u26 u27 u28 u29 u30 u31 u32 u33 u34 u35 u36 u37 u38 u39 u40 u41 u42 u43 u44 u45 u46 u47 u48 u49 u50 u51 u52 u53 u54 u55 u56 u57 u58 u59 u60 u61 u62 u63 u64 u65 u66 u67 u68 u69 u70 u71 u72 u73 u74 u75 u76 u77 u78 u79 u80 u81 u82 u83 u84 u85 u86 u87 u88 u89 u90 u91 u92 u93 u94 u95 u96 u97 u98 u99 u100 u101 u102 u103 u104 u105 u106 u107 u108 u109 u110 u111 u112 u113 u114 u115 u116 u117 u118 u119 u120 u121 u122 u123 u124 u125 u126 u127 u128 u129 u130 u131 u132 u133 u134 u135 u136 u137 u138 u139 u140 u141 u142 u143 u144 u145 u146 u147 u148 u149 u150 u151 u152 u153 u154 u155 u156 u157 u158 u159 u160 u161 u162 u163 u164 u165 u166 u167 u168 u169 u170 u171 u172 u173 u174 u175 u176 u177 u178 u179 u180 u181 u182 u183 u184 u185 u186 u187 u188 u189 u190 Q hT hlb hb h h2 hH hQ
end Go.Proofs.Ytmdnkpiihhaoeaa
namespace Go.Proofs.Ytmdnkpiihhaoeaa
open Go Go.RowKit Fl

section
variable {w wr w' w0 : World} {B gt T G0 nb base : Nat} {N : NetD} {Ab An As Ar : Option Addr} {cb cn cs cr : Nat}
theorem NS.at_ (h : NS w B gt T G0 nb base N Ab An As Ar cb cn cs cr wr) : NetAt wr Ab An As Ar N := by
  obtain ⟨A, c, h1, h2⟩ := h.next.at_
  injection h1 with h1
  subst h1
  exact ⟨ownsRow_holds h.blocks, h2, ownsRow_holds h.spurs, ownsRow_holds h.robots⟩
theorem NS.capR (h : NS w B gt T G0 nb base N Ab An As Ar cb cn cs cr wr) : N.robots.length ≤ cr := by
  obtain ⟨_, h2⟩ := h.robots
  rcases h2 with ⟨_, h0⟩ | ⟨g, cap, cur, hv, _, _, hn, _⟩
  · omega
  · injection hv with _ _ hc
    omega
/-- Behind w0, at whose memory's end robots are put: the box and their row alone are other ones. -/
structure NR (w0 : World) (B gt T nb : Nat) (N : NetD) (Ab An As : Option Addr) (cb cn cs : Nat) (rb : List Int) (Ar : Option Addr) (cr : Nat) (wr : World) : Prop where
  fro : Fro gt nb w0 wr
  tape : TapeOk wr B gt T
  box : wr.heap[nb]? = some (.cells (netCells Ab An As Ar cb cn cs cr { N with robots := rb }) 29 (0, 0))
  robots : wr.ownsRow w0.heap.size 3 1 (.slice Ar rb.length cr) rb.length (rb.map Iv)
  ord : gt < nb ∧ nb < w0.heap.size ∧ B ≤ gt
theorem NS.nr (h : NS w B gt T G0 nb base N Ab An As Ar cb cn cs cr wr) (hr : N.robots = []) (ha : Ar = none) (hc : cr = 0) : NR wr B gt T nb N Ab An As cb cn cs [] none 0 wr := by
  subst ha hc
  have hb := h.box
  obtain ⟨o1, o2, o3, o4⟩ := h.ord
  have hs := h.size
  refine ⟨Fro.refl _ _ _, h.tape, ?_, World.ownsRow_nil _ _ _ _, by omega, by omega, o4⟩
  rw [hb]
  obtain ⟨a, b, c, d, e, f, g, i⟩ := N
  simp only at hr
  subst hr
  rfl
section
variable {rb : List Int}
theorem NR.cells (h : NR w0 B gt T nb N Ab An As cb cn cs rb Ar cr wr) : wr.cell? ⟨nb, 2, none⟩ = some (.slice As N.spurs.length cs) ∧ wr.cell? ⟨nb, 3, none⟩ = some (.slice Ar rb.length cr) ∧ wr.frozen? ⟨nb, 3, none⟩ = false := by
  have := boxAt_of h.box
  exact ⟨this.c2, this.c3, by have := h.box; simp [World.frozen?, this]⟩
theorem NR.keep (h : NR w0 B gt T nb N Ab An As cb cn cs rb Ar cr wr) (hb : Below wr.heap.size wr w') : NR w0 B gt T nb N Ab An As cb cn cs rb Ar cr w' := by
  have hs := h.fro.size
  have := h.ord
  exact ⟨h.fro.trans (Fro.of_below hb), h.tape.keep hb, (hb.block nb (by omega)).trans h.box, ownN_to h.robots fun k _ hk => hb.block k hk, h.ord⟩
theorem NR.next_ (h : NR w0 B gt T nb N Ab An As cb cn cs rb Ar cr wr) (ht : TapeOk w' B gt (T + 1)) (hg : wr.grownBy w' (some gt)) : NR w0 B gt (T + 1) nb N Ab An As cb cn cs rb Ar cr w' := by
  have hs := h.fro.size
  have := h.ord
  exact ⟨h.fro.trans (Fro.of_grown hg), ht, (hg.block nb (by omega) (fun e => by injection e with e; omega)).trans h.box, ownN_to h.robots (fun k hk hlt => hg.block k hlt (fun e => by injection e with e; have := (ownN_type h.robots hk).2; omega)), h.ord⟩
theorem NR.more {T' : Nat} (h : NR w0 B gt T nb N Ab An As cb cn cs rb Ar cr wr) (hT : T ≤ T') : NR w0 B gt T' nb N Ab An As cb cn cs rb Ar cr wr := ⟨h.fro, h.tape.more hT, h.box, h.robots, h.ord⟩
theorem NR.push {gg cap : Nat} {x : Int} {o : Obj} (h : NR w0 B gt T nb N Ab An As cb cn cs rb Ar cr wr) (hg : (wr.alloc o).grownBy w' (Value.slice Ar rb.length cr).ownBlock) (ho : w'.ownsRow w0.heap.size 3 1 (.slice (some ⟨gg, 0, none⟩) (rb.length + 1) cap) (rb.length + 1) (rb.map Iv ++ [Iv x])) :
    NR w0 B gt T nb N Ab An As cb cn cs (rb ++ [x]) (some ⟨gg, 0, none⟩) cap (w'.setCell ⟨nb, 3, none⟩ (.slice (some ⟨gg, 0, none⟩) (rb.length + 1) cap)) := by
  have h1 := h.keep ((Below.refl _ _).alloc (Nat.le_refl _) o)
  have hs := h1.fro.size
  obtain ⟨o1, o2, o3⟩ := h.ord
  have hrow : ∀ k, (Value.slice Ar rb.length cr).ownBlock = some k → w0.heap.size ≤ k := fun k hk => (ownN_type h1.robots hk).2
  have ne : ∀ k, k < w0.heap.size → some k ≠ (Value.slice Ar rb.length cr).ownBlock := fun k hk e => by have := hrow k e.symm; omega
  have hset : ∀ k, k ≠ nb → (w'.setCell ⟨nb, 3, none⟩ (.slice (some ⟨gg, 0, none⟩) (rb.length + 1) cap)).heap[k]? = w'.heap[k]? := fun k hk => Below.heap_setCell _ _ _ _ hk
  have hbox := (hg.block nb (by omega) (ne nb (by omega))).trans h1.box
  have hlen : (rb ++ [x]).length = rb.length + 1 := by simp
  refine ⟨?_, ?_, ?_, ?_, h.ord⟩
  · exact ⟨hg.os.trans h1.fro.os, hg.tape.trans h1.fro.tape, hg.output.trans h1.fro.output, by have := hg.size; simp [World.setCell] at *; omega, fun k hk h2 h3 => (hset k h3).trans ((hg.block k (by omega) (ne k hk)).trans (h1.fro.block k hk h2 h3))⟩
  · have h2 : TapeOk w' B gt T := h1.tape.grown hg (fun e => ne gt (by omega) e.symm) (fun k hk => by have := hrow k hk; omega)
    exact h2.grown (row := some nb) (put_grown _ _ _ _) (fun e => by injection e with e; omega) (fun k hk => by injection hk with hk; omega)
  · rw [set1_at hbox]
    show _ = some (Obj.cells #[.slice Ab N.blocks.length cb, .slice An N.next.length cn, .slice As N.spurs.length cs, .slice (some ⟨gg, 0, none⟩) (rb ++ [x]).length cap, Iv N.queue, Iv N.aging, Iv N.detours, Iv N.patience] 29 (0, 0))
    rw [hlen]
    rfl
  · rw [hlen]
    have h2 : w'.ownsRow w0.heap.size 3 1 (.slice (some ⟨gg, 0, none⟩) (rb.length + 1) cap) (rb.length + 1) ((rb ++ [x]).map Iv) := by
      rw [List.map_append]; exact ho
    exact ownN_to h2 fun k hk _ => hset k (by have := (ownN_type h2 hk).2; omega)
end
end
theorem own_butN {w w' : World} {base n size q : Nat} {e : TypeId} {v : Value} {xs : List Value} (h : w.ownsRow base e size v n xs) (hg : w.grownBy w' (some q)) (hq : q < base) : w'.ownsRow base e size v n xs :=
  ownN_to h fun k hk hlt => hg.block k hlt (fun e => by injection e with e; have := (ownN_type h hk).2; omega)
/-- The free ones of a depot's first j slots. -/
def partF (rb : List Int) (sb : Int) (j : Nat) : List Int := ((List.range j).map (fun k : Nat => sb + k)).filter (fun x => !rb.contains x)
theorem partF_in {rb : List Int} {sb : Int} {j : Nat} (h : sb + (j : Int) ∈ rb) : partF rb sb (j + 1) = partF rb sb j := by
  unfold partF
  rw [List.range_succ, List.map_append, List.filter_append]
  simp [h]
theorem partF_out {rb : List Int} {sb : Int} {j : Nat} (h : ¬ sb + (j : Int) ∈ rb) : partF rb sb (j + 1) = partF rb sb j ++ [sb + (j : Int)] := by
  unfold partF
  rw [List.range_succ, List.map_append, List.filter_append]
  simp [h]
theorem partF_length (rb : List Int) (sb : Int) (j : Nat) : (partF rb sb j).length ≤ j := by
  unfold partF
  exact Nat.le_trans (List.length_filter_le _ _) (by simp)
theorem partF_all {rb : List Int} {nm : List UInt8} {si so sl sb : Int} : (cellsS ⟨nm, true, si, so, sl, sb⟩).filter (fun x => !rb.contains x) = partF rb sb sl.toNat := by
  unfold cellsS partF
  simp
theorem freeK_length {l : List SpurD} {rb : List Int} (h : ∀ s ∈ l, s.slots ≤ 4) : ∀ k, k ≤ l.length → (freeK l rb k).length ≤ 4 * k
  | 0, _ => by simp [freeK]
  | k + 1, hk => by
    have ih := freeK_length (rb := rb) h k (by omega)
    have h4 := h _ (List.getElem_mem (show k < l.length by omega))
    rw [freeK_succ (by omega), List.length_append]
    have h5 : ((cellsS l[k]).filter (fun x => !rb.contains x)).length ≤ (cellsS l[k]).length := List.length_filter_le _ _
    have h6 : (cellsS l[k]).length ≤ 4 := by
      unfold cellsS
      split
      · rw [List.length_map, List.length_range]; omega
      · simp
    omega
theorem NR.behind {w0 wr w' : World} {B gt T nb : Nat} {N : NetD} {Ab An As Ar : Option Addr} {cb cn cs cr : Nat} {rb : List Int} {o : Obj} (h : NR w0 B gt T nb N Ab An As cb cn cs rb Ar cr wr) (hg : (wr.alloc o).grownBy w' (Value.slice Ar rb.length cr).ownBlock) : w'.cell? ⟨nb, 3, none⟩ = some (.slice Ar rb.length cr) ∧ w'.frozen? ⟨nb, 3, none⟩ = false := by
  obtain ⟨o1, o2, o3⟩ := h.ord
  have hs := h.fro.size
  have e1 : w'.heap[nb]? = wr.heap[nb]? := (hg.block nb (by simp; omega) (fun e => by have := (ownN_type h.robots e.symm).2; omega)).trans (Below.heap_alloc _ _ _ (by omega))
  have h2 := h.cells
  refine ⟨(World.cell?_of_block (w := wr) (a := ⟨nb, 3, none⟩) e1).trans h2.2.1, ?_⟩
  have h3 := h2.2.2
  simp only [World.frozen?, e1] at h3 ⊢
  exact h3
theorem cap_small {N : NetD} (h : NetOk N) : 0 ≤ capN (girN N).length (slotsN N) ∧ capN (girN N).length (slotsN N) ≤ 24 ∧ capN (girN N).length (slotsN N) ≤ slotsN N := by
  have h6 := h.spurs6
  have h1 := openSum_bounds (s := opens (cellsN N).toNat) (l := N.spurs) h.few'.2.2 N.spurs.length (Nat.le_refl _)
  have h2 : slotsN N = openSum (opens (cellsN N).toNat) N.spurs N.spurs.length := rfl
  unfold capN
  split <;> omega
theorem best_row {row dist : List Int} : ∀ k, k ≤ row.length → bestK row dist k = -1 ∨ (bestK row dist k ∈ row ∧ 0 ≤ atI dist (bestK row dist k))
  | 0, _ => .inl rfl
  | k + 1, hk => by
    have ih := best_row (row := row) (dist := dist) k (by omega)
    unfold bestK
    simp only
    split
    · rename_i h
      refine .inr ⟨?_, h.1⟩
      rw [List.getD_eq_getElem?_getD, List.getElem?_eq_getElem (by omega)]
      exact List.getElem_mem _
    · exact ih
/-- No closed walk has one vertex: no lane leads from a block to itself. -/
theorem thr_two {g : GraphD} {s : List Bool} {v : Nat} (hg : validG g = true) (hv : v < g.length) : thrF g s v = [] ∨ 2 ≤ (thrF g s v).length := by
  unfold thrF
  split
  · exact .inl rfl
  · rename_i hs
    simp only
    split
    · exact .inl rfl
    · rename_i hb
      right
      rcases best_row (row := rowG g v) (dist := distF g s v) _ (Nat.le_refl _) with h1 | ⟨h1, h2⟩
      · omega
      · obtain ⟨r0, r1, r2⟩ := rowOk_row hg hv _ h1
        generalize bestK (rowG g v) (distF g s v) (rowG g v).length = b at *
        obtain ⟨n, rfl⟩ := Int.eq_ofNat_of_zero_le r0
        have hi := distF_inv hg hv (by simpa using hs)
        have hd : 0 ≤ (distF g s v).getD n (-1) := by
          have : atI (distF g s v) (n : Int) = (distF g s v).getD n (-1) := by simp [atI]
          rw [← this]; exact h2
        have hne : (distF g s v).getD n (-1) ≠ 0 := fun e => r2 (by have := (hi.goal n (by omega)).1 e; omega)
        unfold firstF
        rw [Int.toNat_natCast, if_neg (by omega)]
        simp only [List.length_cons, List.length_dropLast, pathF_length]
        omega
theorem gir_two' {g : GraphD} {s : List Bool} (hg : validG g = true) : ∀ k, k ≤ g.length → girK g s k = [] ∨ 2 ≤ (girK g s k).length
  | 0, _ => .inl rfl
  | k + 1, hk => by
    have ih := gir_two' (s := s) hg k (by omega)
    have ht := thr_two (s := s) (v := k) hg (by omega)
    unfold girK
    simp only
    split
    · rename_i h
      rcases ht with ht | ht
      · rw [ht] at h; simp at h
      · exact .inr ht
    · exact ih
theorem open_one {s : List Bool} {l : List SpurD} (h : ∀ x ∈ l, 1 ≤ x.slots ∧ x.slots ≤ 4) (ho : ∀ x, openS s x = true) : ∀ k, k ≤ l.length → ∀ i, ∀ _ : i < l.length, i < k → l[i].depot = true → 1 ≤ openSum s l k
  | 0, _, _, _, h0, _ => absurd h0 (by omega)
  | k + 1, hk, i, hi, hik, hd => by
    have hb := openSum_bounds (s := s) (l := l) (fun x hx => by have := h x hx; omega) k (by omega)
    have hk1 := h _ (List.getElem_mem (show k < l.length by omega))
    rw [openSum_succ (by omega), ho, Bool.and_true]
    by_cases e : i = k
    · subst e
      rw [if_pos hd]
      omega
    · have ih := open_one h ho k (by omega) i hi (by omega) hd
      split <;> omega
/-- The cap of a valid network is at least 1. -/
theorem cap_one {N : NetD} (h : NetOk N) : 1 ≤ capN (girN N).length (slotsN N) := by
  obtain ⟨x, hx, hd⟩ := h.depot
  obtain ⟨i, hi, rfl⟩ := List.mem_iff_getElem.1 hx
  have h1 : 1 ≤ slotsN N := open_one (fun x hx => by have := (h.spurOk x hx).slots; omega) (fun x => openS_all _ x) _ (Nat.le_refl _) i hi hi hd
  have h2 := gir_two' (s := opens N.blocks.length) h.graph _ (Nat.le_refl _)
  have h3 : girN N = girK N.next (opens N.blocks.length) N.next.length := rfl
  unfold capN
  split
  · rename_i h0
    rcases h2 with h2 | h2
    · rw [h3, h2] at h0; simp at h0
    · rw [h3]; omega
  · exact h1
theorem NetOk.robots {N : NetD} (h : NetOk N) {rb : List Int} (h8 : rb.length ≤ 8) (hd : ∀ x ∈ rb, inDepot N.spurs x) (hn : rb.Nodup) : NetOk { N with robots := rb } :=
  ⟨h.some, h.few, h.lanes, h.places, h.outs, h.graph, h.spurs6, h.named, h.apart, h8, h.conf, h.spurOk, h.bases, hd, hn, h.depot⟩
/-- What is known of a network that was made. -/
structure NetMade (most : Nat) (N : NetD) : Prop where
  ok : NetOk N
  most_ : N.blocks.length ≤ most
  blocks : MadeB N.blocks
  graph : GrOk N.blocks.length N.next
  spurs : MadeS N.blocks.length N.spurs
  spurs3 : 3 ≤ N.spurs.length
  spurs5 : N.spurs.length ≤ 5
  robots3 : N.robots.length ≤ 3
  robots1 : 1 ≤ N.robots.length
  fleet : (N.robots.length : Int) ≤ capN (girN N).length (slotsN N)
/-- Rows in blocks below top. -/
def RowsLow (w : World) (base top : Nat) (v : Value) (g : GraphD) : Prop :=
  ∃ vs : List Value, vs.length = g.length ∧ w.ownsRow base 25 1 v g.length vs ∧ ∀ (k : Nat) (u : Value) (r : List Int), vs[k]? = some u → g[k]? = some r → w.ownsRow base 3 1 u r.length (r.map Iv) ∧ ∀ j, u.ownBlock = some j → j < top
theorem RowsLow.own {w : World} {base top : Nat} {v : Value} {g : GraphD} (h : RowsLow w base top v g) : RowsOwn w base v g := by
  obtain ⟨vs, h1, h2, h3⟩ := h
  exact ⟨vs, h1, h2, fun k u r a b => (h3 k u r a b).1⟩
theorem RowsLow.of {w w' : World} {base : Nat} {v : Value} {g : GraphD} (h : RowsOwn w base v g) (hs : ∀ k, base ≤ k → k < w.heap.size → w'.heap[k]? = w.heap[k]?) : RowsLow w' base w.heap.size v g := by
  obtain ⟨vs, h1, h2, h3⟩ := h
  refine ⟨vs, h1, ownN_to h2 fun k hk hlt => hs k (ownN_type h2 hk).2 hlt, fun k u r a b => ⟨ownN_to (h3 k u r a b) fun j hj hlt => hs j (ownN_type (h3 k u r a b) hj).2 hlt, fun j hj => ?_⟩⟩
  obtain ⟨⟨cs, h4⟩, _⟩ := ownN_type (h3 k u r a b) hj
  exact block_lt h4
theorem RowsLow.keep {w w' : World} {base top : Nat} {v : Value} {g : GraphD} (h : RowsLow w base top v g) (hs : ∀ k, base ≤ k → k < w.heap.size → (k < top ∨ ∃ cs, w.heap[k]? = some (.cells cs 25 (0, 0))) → w'.heap[k]? = w.heap[k]?) : RowsLow w' base top v g := by
  obtain ⟨vs, h1, h2, h3⟩ := h
  exact ⟨vs, h1, ownN_to h2 fun k hk hlt => hs k (ownN_type h2 hk).2 hlt (.inr (ownN_type h2 hk).1), fun k u r a b => ⟨ownN_to (h3 k u r a b).1 fun j hj hlt => hs j (ownN_type (h3 k u r a b).1 hj).2 hlt (.inl ((h3 k u r a b).2 j hj)), (h3 k u r a b).2⟩⟩
/-- A network that was made: its lists are the call's own; the robots' row lies behind all others. -/
structure NM (w : World) (B gt T G0 base top : Nat) (N : NetD) (Ab An As Ar : Option Addr) (cb cn cs cr : Nat) (wr : World) : Prop where
  tape : TapeOk wr B gt T
  blocks : wr.ownsRow base 87 3 (.slice Ab N.blocks.length cb) N.blocks.length (blockCells N.blocks)
  next : RowsLow wr base top (.slice An N.next.length cn) N.next
  spurs : wr.ownsRow base 66 6 (.slice As N.spurs.length cs) N.spurs.length (spurCells N.spurs)
  robots : wr.ownsRow top 3 1 (.slice Ar N.robots.length cr) N.robots.length (N.robots.map Iv)
  still : Still gt G0 w wr
  size : top ≤ wr.heap.size
  ord : gt < G0 ∧ G0 < base ∧ base ≤ top ∧ B ≤ gt
section
variable {w w0 wr W : World} {B gt T T0 G0 nb base : Nat} {N : NetD} {Ab An As Ar : Option Addr} {cb cn cs cr : Nat} {rb : List Int}
theorem NR.done (h0 : NS w B gt T0 G0 nb base N Ab An As none cb cn cs 0 w0) (h : NR w0 B gt T nb N Ab An As cb cn cs rb Ar cr wr) (hg : wr.grownBy W (some G0)) : NM w B gt T G0 base w0.heap.size { N with robots := rb } Ab An As Ar cb cn cs cr W := by
  obtain ⟨o1, o2, o3, o4⟩ := h0.ord
  have hs0 := h0.size
  have hsz := h.fro.size
  have key : ∀ k, base ≤ k → k < w0.heap.size → W.heap[k]? = w0.heap[k]? := fun k hk hlt => (hg.block k (by omega) (fun e => by injection e with e; omega)).trans (h.fro.block k hlt (by omega) (by omega))
  refine ⟨h.tape.grown hg (fun e => by injection e with e; omega) (fun k hk => by injection hk with hk; omega), ownN_to h0.blocks fun k hk hlt => key k (ownN_type h0.blocks hk).2 hlt, RowsLow.of h0.next key, ownN_to h0.spurs fun k hk hlt => key k (ownN_type h0.spurs hk).2 hlt, ownN_to h.robots fun k hk hlt => hg.block k hlt (fun e => by injection e with e; have := (ownN_type h.robots hk).2; omega), ?_, by have := hg.size; omega, by omega, by omega, hs0, o4⟩
  exact h0.still.trans ⟨hg.os.trans h.fro.os, hg.tape.trans h.fro.tape, hg.output.trans h.fro.output, Nat.le_trans hsz hg.size, fun k hk hgt => (hg.block k (by omega) (fun e => by injection e with e; omega)).trans (h.fro.block k (by omega) hgt (by omega))⟩
end
theorem nm_at {w W : World} {B gt T T' G0 x top : Nat} {N : NetD} {Ab An As Ar : Option Addr} {cb cn cs cr : Nat} (e : G0 = x) (h : NM w B gt T G0 (G0 + 2) top N Ab An As Ar cb cn cs cr W) (hT : T ≤ T') : NM w B gt T' x (x + 2) top N Ab An As Ar cb cn cs cr W := by
  subst e
  exact ⟨h.tape.more hT, h.blocks, h.next, h.spurs, h.robots, h.still, h.size, h.ord⟩
theorem set8_at {W : World} {g : Nat} {a0 a1 a2 a3 a4 a5 a6 a7 v0 v1 v2 v3 v4 v5 v6 v7 : Value} {t : TypeId} (h : W.heap[g]? = some (.cells #[a0, a1, a2, a3, a4, a5, a6, a7] t (0, 0))) : ((((((((W.setCell ⟨g, 0, none⟩ v0).setCell ⟨g, 1, none⟩ v1).setCell ⟨g, 2, none⟩ v2).setCell ⟨g, 3, none⟩ v3).setCell ⟨g, 4, none⟩ v4).setCell ⟨g, 5, none⟩ v5).setCell ⟨g, 6, none⟩ v6).setCell ⟨g, 7, none⟩ v7).heap[g]? = some (.cells #[v0, v1, v2, v3, v4, v5, v6, v7] t (0, 0)) := by
  have e0 := set1_at (i := 0) (v := v0) h
  have e0' : _ = some (Obj.cells #[v0, a1, a2, a3, a4, a5, a6, a7] t (0, 0)) := e0
  have e1 := set1_at (i := 1) (v := v1) e0'
  have e1' : _ = some (Obj.cells #[v0, v1, a2, a3, a4, a5, a6, a7] t (0, 0)) := e1
  have e2 := set1_at (i := 2) (v := v2) e1'
  have e2' : _ = some (Obj.cells #[v0, v1, v2, a3, a4, a5, a6, a7] t (0, 0)) := e2
  have e3 := set1_at (i := 3) (v := v3) e2'
  have e3' : _ = some (Obj.cells #[v0, v1, v2, v3, a4, a5, a6, a7] t (0, 0)) := e3
  have e4 := set1_at (i := 4) (v := v4) e3'
  have e4' : _ = some (Obj.cells #[v0, v1, v2, v3, v4, a5, a6, a7] t (0, 0)) := e4
  have e5 := set1_at (i := 5) (v := v5) e4'
  have e5' : _ = some (Obj.cells #[v0, v1, v2, v3, v4, v5, a6, a7] t (0, 0)) := e5
  have e6 := set1_at (i := 6) (v := v6) e5'
  have e6' : _ = some (Obj.cells #[v0, v1, v2, v3, v4, v5, v6, a7] t (0, 0)) := e6
  have e7 := set1_at (i := 7) (v := v7) e6'
  have e7' : _ = some (Obj.cells #[v0, v1, v2, v3, v4, v5, v6, v7] t (0, 0)) := e7
  exact e7'
theorem set8_grown (W : World) (g : Nat) (v0 v1 v2 v3 v4 v5 v6 v7 : Value) : W.grownBy ((((((((W.setCell ⟨g, 0, none⟩ v0).setCell ⟨g, 1, none⟩ v1).setCell ⟨g, 2, none⟩ v2).setCell ⟨g, 3, none⟩ v3).setCell ⟨g, 4, none⟩ v4).setCell ⟨g, 5, none⟩ v5).setCell ⟨g, 6, none⟩ v6).setCell ⟨g, 7, none⟩ v7) (some g) :=
  grown_trans (grown_trans (set6_grown W g v0 v1 v2 v3 v4 v5) (put_grown _ _ _ _)) (put_grown _ _ _ _)
theorem row8_c {w : World} {X : Nat} {cs : Array Value} {t : TypeId} (h : w.heap[X]? = some (.cells cs t (0, 0))) (h8 : cs.size = 8) : ∃ a0 a1 a2 a3 a4 a5 a6 a7, cs = #[a0, a1, a2, a3, a4, a5, a6, a7] ∧ w.cell? ⟨X, 0, none⟩ = some a0 ∧ w.cell? ⟨X, 1, none⟩ = some a1 ∧ w.cell? ⟨X, 2, none⟩ = some a2 ∧ w.cell? ⟨X, 3, none⟩ = some a3 ∧ w.cell? ⟨X, 4, none⟩ = some a4 ∧ w.cell? ⟨X, 5, none⟩ = some a5 ∧ w.cell? ⟨X, 6, none⟩ = some a6 ∧ w.cell? ⟨X, 7, none⟩ = some a7 ∧ ∀ i, w.frozen? ⟨X, i, none⟩ = false := by
  obtain ⟨l⟩ := cs
  have h9 : l.length = 8 := h8
  clear h8
  have cut : ∀ (n : Nat) (l : List Value), l.length = n + 1 → ∃ a t, l = a :: t ∧ t.length = n := fun n l h => by
    cases l with
    | nil => simp at h
    | cons a t => exact ⟨a, t, rfl, by simpa using h⟩
  obtain ⟨a0, l0, rfl, k0⟩ := cut 7 l h9
  obtain ⟨a1, l1, rfl, k1⟩ := cut 6 l0 k0
  obtain ⟨a2, l2, rfl, k2⟩ := cut 5 l1 k1
  obtain ⟨a3, l3, rfl, k3⟩ := cut 4 l2 k2
  obtain ⟨a4, l4, rfl, k4⟩ := cut 3 l3 k3
  obtain ⟨a5, l5, rfl, k5⟩ := cut 2 l4 k4
  obtain ⟨a6, l6, rfl, k6⟩ := cut 1 l5 k5
  obtain ⟨a7, l7, rfl, k7⟩ := cut 0 l6 k6
  obtain rfl := List.eq_nil_of_length_eq_zero k7
  exact ⟨a0, a1, a2, a3, a4, a5, a6, a7, rfl, by rw [cell_of_row w X 0 _ _ _ h]; rfl, by rw [cell_of_row w X 1 _ _ _ h]; rfl, by rw [cell_of_row w X 2 _ _ _ h]; rfl, by rw [cell_of_row w X 3 _ _ _ h]; rfl, by rw [cell_of_row w X 4 _ _ _ h]; rfl, by rw [cell_of_row w X 5 _ _ _ h]; rfl, by rw [cell_of_row w X 6 _ _ _ h]; rfl, by rw [cell_of_row w X 7 _ _ _ h]; rfl, fun i => by simp [World.frozen?, h]⟩
end Go.Proofs.Ytmdnkpiihhaoeaa

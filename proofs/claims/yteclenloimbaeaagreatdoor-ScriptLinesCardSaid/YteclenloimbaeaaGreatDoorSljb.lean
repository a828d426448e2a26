/- Texts side by side. -/
import Derived.Shelf.Strings.OnBuilder
import Derived.Shelf.Strconv.Itoa4
import Derived.Shelf.LaysM
import Derived.Shelf.LaysC
import Derived.Shelf.Strconv.ParseIntPublic10
import Derived.Shelf.Strconv.ErrVarParseInt
import Derived.Shelf.Strings.Split
import Derived.Lib.SplitLaws
import Derived.Lib.Join
import Derived.Lib.ItoaMem
import Derived.Lib.ItoaLen
import Derived.Lib.ParseIntBTie
import Derived.Lib.ParseIntBCases
import Derived.WalkSmall
import Derived.Lib.AppendIntMem
import Derived.Test.YteclenloimbaeaaGreatDoorProg
import Derived.Test.YteclenloimbaeaaGreatDoorSlja
set_option linter.unusedVariables false
set_option linter.unusedSimpArgs false
set_option maxRecDepth 100000
set_option maxHeartbeats 16000000
namespace Go.Proofs
open Go.Shelf
def Tryz.lays156_ren : Go.Shelf.Ren := ⟨fun | 156 => 38 | 165 => 54 | 166 => 55 | 169 => 56 | 240 => 64 | 241 => 65 | 276 => 79 | 277 => 80 | n => n, fun | 31 => 52 | 9 => 9 | 3 => 3 | 4 => 4 | 0 => 0 | 20 => 20 | 72 => 104 | 76 => 106 | 70 => 102 | 37 => 72 | 75 => 95 | 127 => 113 | 164 => 130 | 5 => 5 | 80 => 108 | n => n, fun | n => n⟩
theorem Tryz.lays156 : Go.Proofs.Lays.n156 Tryz.prog Tryz.lays156_ren := {
  mixed := by kernel_rfl
  f156 := Tryz.func38.trans (congrArg some (by kernel_rfl))
  f165 := Tryz.func54.trans (congrArg some (by kernel_rfl))
  f166 := Tryz.func55.trans (congrArg some (by kernel_rfl))
  f169 := Tryz.func56.trans (congrArg some (by kernel_rfl))
  f240 := Tryz.func64.trans (congrArg some (by kernel_rfl))
  f241 := Tryz.func65.trans (congrArg some (by kernel_rfl))
  f276 := Tryz.func79.trans (congrArg some (by kernel_rfl))
  f277 := Tryz.func80.trans (congrArg some (by kernel_rfl))
  t0 := Tryz.underlying0
  a0 := Tryz.isAgg0
  z0 := Tryz.sizeOf0
  v0 := Tryz.zeroValue0
  t3 := Tryz.underlying3
  a3 := Tryz.isAgg3
  z3 := Tryz.sizeOf3
  v3 := Tryz.zeroValue3
  t4 := Tryz.underlying4
  a4 := Tryz.isAgg4
  z4 := Tryz.sizeOf4
  v4 := Tryz.zeroValue4
  t9 := Tryz.underlying9
  a9 := Tryz.isAgg9
  z9 := Tryz.sizeOf9
  v9 := Tryz.zeroValue9
  t20 := Tryz.underlying20
  a20 := Tryz.isAgg20
  z20 := Tryz.sizeOf20
  v20 := Tryz.zeroValue20
  t31 := Tryz.underlying52
  a31 := Tryz.isAgg52
  z31 := Tryz.sizeOf52
  v31 := Tryz.zeroValue52
  t37 := Tryz.underlying72
  a37 := Tryz.isAgg72
  z37 := Tryz.sizeOf72
  v37 := Tryz.zeroValue72
  t70 := Tryz.underlying102
  a70 := Tryz.isAgg102
  z70 := Tryz.sizeOf102
  v70 := Tryz.zeroValue102
  t72 := Tryz.underlying104
  a72 := Tryz.isAgg104
  z72 := Tryz.sizeOf104
  v72 := Tryz.zeroValue104
  t75 := Tryz.underlying95
  a75 := Tryz.isAgg95
  z75 := Tryz.sizeOf95
  v75 := Tryz.zeroValue95
  t76 := Tryz.underlying106
  a76 := Tryz.isAgg106
  z76 := Tryz.sizeOf106
  v76 := Tryz.zeroValue106
  t127 := Tryz.underlying113
  a127 := Tryz.isAgg113
  z127 := Tryz.sizeOf113
  v127 := Tryz.zeroValue113
  t164 := Tryz.underlying130
  a164 := Tryz.isAgg130
  z164 := Tryz.sizeOf130
  v164 := Tryz.zeroValue130 }
theorem Tryz.Builder_Extra_156 : Builder.Extra Tryz.prog Tryz.lays156_ren := {
  sizeBuilder := by kernel_rfl
  liesBuilder := by kernel_rfl
  t5 := Tryz.underlying5
  a5 := Tryz.isAgg5
  z5 := Tryz.sizeOf5
  v5 := Tryz.zeroValue5
  infoByte := by kernel_rfl
  cellsByte := by kernel_rfl
  sizeByte := by kernel_rfl
  neB5 := by decide }
open Go.RowKit in
theorem Tryz.strings_Join (bk o c : Nat) (xs : List ByteArray) (sep : ByteArray) (w : World) (hcells : ∀ (j : Nat) x, xs[j]? = some x → w.cell? ⟨bk, o + j, none⟩ = some (.string x)) (hbk : bk < w.heap.size) (hN : xs.length ≤ 140737488355328) (hcap : xs.length ≤ c) (hlen : (Lib.join (xs.map (·.data.toList)) sep.data.toList).length ≤ 140737488355328) :
    Calls Tryz.prog 38 #[.slice (some ⟨bk, o, none⟩) xs.length c, .string sep] w fun e w' => e = .returned (.string ⟨(Lib.join (xs.map (·.data.toList)) sep.data.toList).toArray⟩) ∧ Below w.heap.size w w' := Any.strings_Join Tryz.lays156 Tryz.Builder_Extra_156 bk o c xs sep w hcells hbk hN hcap hlen
def Tryz.laysM173_ren : Go.Shelf.Ren := ⟨fun | 173 => 39 | 246 => 57 | 283 => 66 | 284 => 67 | 285 => 68 | 286 => 69 | 129 => 82 | 317 => 81 | 318 => 83 | 319 => 84 | 320 => 85 | 337 => 96 | 338 => 97 | n => n, fun | 2 => 2 | 3 => 3 | 9 => 9 | 4 => 4 | 171 => 114 | 0 => 0 | 53 => 98 | 37 => 72 | 5 => 5 | 173 => 117 | 212 => 135 | 51 => 136 | 20 => 20 | 213 => 137 | 46 => 126 | 232 => 155 | 233 => 156 | n => n, fun | 17 => 0 | 18 => 6 | 19 => 7 | n => n⟩
theorem Tryz.laysM173 : Go.Proofs.LaysM.n173 Tryz.prog Tryz.laysM173_ren := {
  mixed := by kernel_rfl
  f129 := Tryz.func82.trans (congrArg some (by kernel_rfl))
  f173 := Tryz.func39.trans (congrArg some (by kernel_rfl))
  f246 := Tryz.func57.trans (congrArg some (by kernel_rfl))
  f283 := Tryz.func66.trans (congrArg some (by kernel_rfl))
  f284 := Tryz.func67.trans (congrArg some (by kernel_rfl))
  f285 := Tryz.func68.trans (congrArg some (by kernel_rfl))
  f286 := Tryz.func69.trans (congrArg some (by kernel_rfl))
  f317 := Tryz.func81.trans (congrArg some (by kernel_rfl))
  f318 := Tryz.func83.trans (congrArg some (by kernel_rfl))
  f319 := Tryz.func84.trans (congrArg some (by kernel_rfl))
  f320 := Tryz.func85.trans (congrArg some (by kernel_rfl))
  f337 := Tryz.func96.trans (congrArg some (by kernel_rfl))
  f338 := Tryz.func97.trans (congrArg some (by kernel_rfl))
  t0 := Tryz.underlying0
  a0 := Tryz.isAgg0
  z0 := Tryz.sizeOf0
  v0 := Tryz.zeroValue0
  t2 := Tryz.underlying2
  a2 := Tryz.isAgg2
  z2 := Tryz.sizeOf2
  v2 := Tryz.zeroValue2
  t3 := Tryz.underlying3
  a3 := Tryz.isAgg3
  z3 := Tryz.sizeOf3
  v3 := Tryz.zeroValue3
  t4 := Tryz.underlying4
  a4 := Tryz.isAgg4
  z4 := Tryz.sizeOf4
  v4 := Tryz.zeroValue4
  t5 := Tryz.underlying5
  a5 := Tryz.isAgg5
  z5 := Tryz.sizeOf5
  v5 := Tryz.zeroValue5
  t9 := Tryz.underlying9
  a9 := Tryz.isAgg9
  z9 := Tryz.sizeOf9
  v9 := Tryz.zeroValue9
  t20 := Tryz.underlying20
  a20 := Tryz.isAgg20
  z20 := Tryz.sizeOf20
  v20 := Tryz.zeroValue20
  t37 := Tryz.underlying72
  a37 := Tryz.isAgg72
  z37 := Tryz.sizeOf72
  v37 := Tryz.zeroValue72
  t46 := Tryz.underlying126
  a46 := Tryz.isAgg126
  z46 := Tryz.sizeOf126
  v46 := Tryz.zeroValue126
  t51 := Tryz.underlying136
  a51 := Tryz.isAgg136
  z51 := Tryz.sizeOf136
  v51 := Tryz.zeroValue136
  t53 := Tryz.underlying98
  a53 := Tryz.isAgg98
  z53 := Tryz.sizeOf98
  v53 := Tryz.zeroValue98
  t171 := Tryz.underlying114
  a171 := Tryz.isAgg114
  z171 := Tryz.sizeOf114
  v171 := Tryz.zeroValue114
  t173 := Tryz.underlying117
  a173 := Tryz.isAgg117
  z173 := Tryz.sizeOf117
  v173 := Tryz.zeroValue117
  t212 := Tryz.underlying135
  a212 := Tryz.isAgg135
  z212 := Tryz.sizeOf135
  v212 := Tryz.zeroValue135
  t213 := Tryz.underlying137
  a213 := Tryz.isAgg137
  z213 := Tryz.sizeOf137
  t232 := Tryz.underlying155
  a232 := Tryz.isAgg155
  z232 := Tryz.sizeOf155
  v232 := Tryz.zeroValue155
  t233 := Tryz.underlying156
  a233 := Tryz.isAgg156
  z233 := Tryz.sizeOf156
  v233 := Tryz.zeroValue156
  g17 := by kernel_rfl
  g18 := by kernel_rfl
  g19 := by kernel_rfl
  i0 := by kernel_rfl
  i2 := by kernel_rfl
  i3 := by kernel_rfl
  i4 := by kernel_rfl
  i5 := by kernel_rfl
  i9 := by kernel_rfl
  i20 := by kernel_rfl
  i37 := by kernel_rfl
  i46 := by kernel_rfl
  i51 := by kernel_rfl
  i53 := by kernel_rfl
  i171 := by kernel_rfl
  i173 := by kernel_rfl
  i212 := by kernel_rfl
  i232 := by kernel_rfl
  i233 := by kernel_rfl
  m17 := by kernel_rfl
  m18 := by kernel_rfl
  m19 := by kernel_rfl }
open Go.RowKit Go.Sort Go.Lib in
theorem Tryz.strconv_FormatInt_10 (n : Int) (h0 : -9223372036854775808 ≤ n) (h1 : n ≤ 9223372036854775807) (w : World) (htab : Lib.TabIs Tryz.prog w "internal/strconv.uint64pow10" .u64 Lib.pow10Tab) :
    Calls Tryz.prog 39 #[.int .i64 n, .int .i64 10] w fun e w' => e = .returned (.string ⟨(Lib.itoa n).toArray⟩) ∧ ∃ k os, w' = grow (w.drewN k) os := Any.strconv_FormatInt_10 Tryz.laysM173 n h0 h1 w htab
def Tryz.laysC174_ren : Go.Shelf.Ren := ⟨fun | 174 => 51 | 247 => 62 | 245 => 63 | 287 => 74 | 279 => 75 | 280 => 76 | 281 => 77 | 282 => 78 | 321 => 91 | 322 => 92 | 316 => 93 | 171 => 95 | 205 => 94 | 243 => 100 | 246 => 57 | 283 => 66 | 284 => 67 | 285 => 68 | 286 => 69 | 129 => 82 | 317 => 81 | 318 => 83 | 319 => 84 | 320 => 85 | 337 => 96 | 338 => 97 | n => n, fun | 9 => 9 | 3 => 3 | 2 => 2 | 75 => 95 | 85 => 96 | 4 => 4 | 167 => 123 | 5 => 5 | 53 => 98 | 175 => 124 | 46 => 126 | 168 => 127 | 37 => 72 | 0 => 0 | 210 => 143 | 21 => 21 | 127 => 113 | 145 => 154 | 143 => 152 | 171 => 114 | 173 => 117 | 212 => 135 | 51 => 136 | 20 => 20 | 213 => 137 | 232 => 155 | 233 => 156 | 80 => 108 | n => n, fun | 15 => 2 | 16 => 3 | 17 => 0 | 18 => 6 | 19 => 7 | n => n⟩
theorem Tryz.laysC174 : Go.Proofs.LaysC.n174 Tryz.prog Tryz.laysC174_ren := {
  mixed := by kernel_rfl
  f129 := Tryz.func82.trans (congrArg some (by kernel_rfl))
  f171 := Tryz.func95.trans (congrArg some (by kernel_rfl))
  f174 := Tryz.func51.trans (congrArg some (by kernel_rfl))
  f205 := Tryz.func94.trans (congrArg some (by kernel_rfl))
  f243 := Tryz.func100.trans (congrArg some (by kernel_rfl))
  f245 := Tryz.func63.trans (congrArg some (by kernel_rfl))
  f246 := Tryz.func57.trans (congrArg some (by kernel_rfl))
  f247 := Tryz.func62.trans (congrArg some (by kernel_rfl))
  f279 := Tryz.func75.trans (congrArg some (by kernel_rfl))
  f280 := Tryz.func76.trans (congrArg some (by kernel_rfl))
  f281 := Tryz.func77.trans (congrArg some (by kernel_rfl))
  f282 := Tryz.func78.trans (congrArg some (by kernel_rfl))
  f283 := Tryz.func66.trans (congrArg some (by kernel_rfl))
  f284 := Tryz.func67.trans (congrArg some (by kernel_rfl))
  f285 := Tryz.func68.trans (congrArg some (by kernel_rfl))
  f286 := Tryz.func69.trans (congrArg some (by kernel_rfl))
  f287 := Tryz.func74.trans (congrArg some (by kernel_rfl))
  f316 := Tryz.func93.trans (congrArg some (by kernel_rfl))
  f317 := Tryz.func81.trans (congrArg some (by kernel_rfl))
  f318 := Tryz.func83.trans (congrArg some (by kernel_rfl))
  f319 := Tryz.func84.trans (congrArg some (by kernel_rfl))
  f320 := Tryz.func85.trans (congrArg some (by kernel_rfl))
  f321 := Tryz.func91.trans (congrArg some (by kernel_rfl))
  f322 := Tryz.func92.trans (congrArg some (by kernel_rfl))
  f337 := Tryz.func96.trans (congrArg some (by kernel_rfl))
  f338 := Tryz.func97.trans (congrArg some (by kernel_rfl))
  t0 := Tryz.underlying0
  a0 := Tryz.isAgg0
  z0 := Tryz.sizeOf0
  v0 := Tryz.zeroValue0
  t2 := Tryz.underlying2
  a2 := Tryz.isAgg2
  z2 := Tryz.sizeOf2
  v2 := Tryz.zeroValue2
  t3 := Tryz.underlying3
  a3 := Tryz.isAgg3
  z3 := Tryz.sizeOf3
  v3 := Tryz.zeroValue3
  t4 := Tryz.underlying4
  a4 := Tryz.isAgg4
  z4 := Tryz.sizeOf4
  v4 := Tryz.zeroValue4
  t5 := Tryz.underlying5
  a5 := Tryz.isAgg5
  z5 := Tryz.sizeOf5
  v5 := Tryz.zeroValue5
  t9 := Tryz.underlying9
  a9 := Tryz.isAgg9
  z9 := Tryz.sizeOf9
  v9 := Tryz.zeroValue9
  t20 := Tryz.underlying20
  a20 := Tryz.isAgg20
  z20 := Tryz.sizeOf20
  v20 := Tryz.zeroValue20
  t21 := Tryz.underlying21
  a21 := Tryz.isAgg21
  z21 := Tryz.sizeOf21
  v21 := Tryz.zeroValue21
  t37 := Tryz.underlying72
  a37 := Tryz.isAgg72
  z37 := Tryz.sizeOf72
  v37 := Tryz.zeroValue72
  t46 := Tryz.underlying126
  a46 := Tryz.isAgg126
  z46 := Tryz.sizeOf126
  v46 := Tryz.zeroValue126
  t51 := Tryz.underlying136
  a51 := Tryz.isAgg136
  z51 := Tryz.sizeOf136
  v51 := Tryz.zeroValue136
  t53 := Tryz.underlying98
  a53 := Tryz.isAgg98
  z53 := Tryz.sizeOf98
  v53 := Tryz.zeroValue98
  t75 := Tryz.underlying95
  a75 := Tryz.isAgg95
  z75 := Tryz.sizeOf95
  v75 := Tryz.zeroValue95
  t85 := Tryz.underlying96
  a85 := Tryz.isAgg96
  z85 := Tryz.sizeOf96
  v85 := Tryz.zeroValue96
  t127 := Tryz.underlying113
  a127 := Tryz.isAgg113
  z127 := Tryz.sizeOf113
  v127 := Tryz.zeroValue113
  t143 := Tryz.underlying152
  a143 := Tryz.isAgg152
  z143 := Tryz.sizeOf152
  v143 := Tryz.zeroValue152
  t145 := Tryz.underlying154
  a145 := Tryz.isAgg154
  z145 := Tryz.sizeOf154
  v145 := Tryz.zeroValue154
  t167 := Tryz.underlying123
  a167 := Tryz.isAgg123
  z167 := Tryz.sizeOf123
  v167 := Tryz.zeroValue123
  t168 := Tryz.underlying127
  a168 := Tryz.isAgg127
  z168 := Tryz.sizeOf127
  v168 := Tryz.zeroValue127
  t171 := Tryz.underlying114
  a171 := Tryz.isAgg114
  z171 := Tryz.sizeOf114
  v171 := Tryz.zeroValue114
  t173 := Tryz.underlying117
  a173 := Tryz.isAgg117
  z173 := Tryz.sizeOf117
  v173 := Tryz.zeroValue117
  t175 := Tryz.underlying124
  a175 := Tryz.isAgg124
  z175 := Tryz.sizeOf124
  v175 := Tryz.zeroValue124
  t210 := Tryz.underlying143
  a210 := Tryz.isAgg143
  z210 := Tryz.sizeOf143
  v210 := Tryz.zeroValue143
  t212 := Tryz.underlying135
  a212 := Tryz.isAgg135
  z212 := Tryz.sizeOf135
  v212 := Tryz.zeroValue135
  t213 := Tryz.underlying137
  a213 := Tryz.isAgg137
  z213 := Tryz.sizeOf137
  t232 := Tryz.underlying155
  a232 := Tryz.isAgg155
  z232 := Tryz.sizeOf155
  v232 := Tryz.zeroValue155
  t233 := Tryz.underlying156
  a233 := Tryz.isAgg156
  z233 := Tryz.sizeOf156
  v233 := Tryz.zeroValue156
  g15 := by kernel_rfl
  g16 := by kernel_rfl
  g17 := by kernel_rfl
  g18 := by kernel_rfl
  g19 := by kernel_rfl
  t80 := Tryz.underlying108
  a80 := Tryz.isAgg108
  z80 := Tryz.sizeOf108
  v80 := Tryz.zeroValue108
  i0 := by kernel_rfl
  i2 := by kernel_rfl
  i3 := by kernel_rfl
  i4 := by kernel_rfl
  i5 := by kernel_rfl
  i9 := by kernel_rfl
  i20 := by kernel_rfl
  i21 := by kernel_rfl
  i37 := by kernel_rfl
  i46 := by kernel_rfl
  i51 := by kernel_rfl
  i53 := by kernel_rfl
  i75 := by kernel_rfl
  i80 := by kernel_rfl
  i85 := by kernel_rfl
  i127 := by kernel_rfl
  i143 := by kernel_rfl
  i145 := by kernel_rfl
  i167 := by kernel_rfl
  i168 := by kernel_rfl
  i171 := by kernel_rfl
  i173 := by kernel_rfl
  i175 := by kernel_rfl
  i210 := by kernel_rfl
  i212 := by kernel_rfl
  i232 := by kernel_rfl
  i233 := by kernel_rfl
  m15 := by kernel_rfl
  m16 := by kernel_rfl
  m17 := by kernel_rfl
  m18 := by kernel_rfl
  m19 := by kernel_rfl
  c0 := by kernel_rfl
  c2 := by kernel_rfl
  c3 := by kernel_rfl
  c4 := by kernel_rfl
  c5 := by kernel_rfl
  c9 := by kernel_rfl
  c20 := by kernel_rfl
  c21 := by kernel_rfl
  c37 := by kernel_rfl
  c46 := by kernel_rfl
  c51 := by kernel_rfl
  c53 := by kernel_rfl
  c75 := by kernel_rfl
  c80 := by kernel_rfl
  c85 := by kernel_rfl
  c127 := by kernel_rfl
  c143 := by kernel_rfl
  c145 := by kernel_rfl
  c167 := by kernel_rfl
  c168 := by kernel_rfl
  c171 := by kernel_rfl
  c173 := by kernel_rfl
  c175 := by kernel_rfl
  c210 := by kernel_rfl
  c212 := by kernel_rfl
  c213 := by kernel_rfl
  c232 := by kernel_rfl
  c233 := by kernel_rfl }
open Go.RowKit in
theorem Tryz.strconv_ParseInt_10_at64_ok (s : ByteArray) (hmax : s.size ≤ 9223372036854775806) (v : Int) (h : Lib.parseIntB 64 s.data.toList = .ok v) (w : World) :
    Calls Tryz.prog 51 #[.string s, .int .i64 10, .int .i64 64] w fun e w' => e = .returned (.tuple #[.int .i64 v, .nilIface]) ∧ (w' = w ∨ ∃ t, w' = Lib.bytesWorld w 5 t) := Any.strconv_ParseInt_10_at64_ok Tryz.laysC174 s hmax v h w
open Go.RowKit in
theorem Tryz.strconv_ParseInt_10_at64_syntax_var (s : ByteArray) (hlim : s.size ≤ 281474976710656) (h : Lib.parseIntB 64 s.data.toList = Lib.NumEnd.syntax) (tp : TypeId) (p : Value) (w : World) (hvar : w.var? Tryz.prog "strconv.ErrSyntax" = some #[.iface tp p]) :
    Calls Tryz.prog 51 #[.string s, .int .i64 10, .int .i64 64] w fun e w' => ∃ N, e = .returned (.tuple #[.int .i64 (0), .iface 127 (.pointer (some ⟨N, 0, none⟩))]) ∧ w.heap.size ≤ N ∧ w'.heap[N]? = some (.cells #[.string ⟨#[80, 97, 114, 115, 101, 73, 110, 116]⟩, .string s, .iface tp p] 143 (0, 0)) ∧ Below w.heap.size w w' := Any.strconv_ParseInt_10_at64_syntax_var Tryz.laysC174 s hlim h tp p w hvar
open Go.RowKit in
theorem Tryz.strconv_ParseInt_10_at64_range_var (s : ByteArray) (hlim : s.size ≤ 281474976710656) (h : Lib.parseIntB 64 s.data.toList = .range) (tp : TypeId) (p : Value) (w : World) (hvar : w.var? Tryz.prog "strconv.ErrRange" = some #[.iface tp p]) :
    Calls Tryz.prog 51 #[.string s, .int .i64 10, .int .i64 64] w fun e w' => ∃ N, e = .returned (.tuple #[.int .i64 (Lib.intSat 64 s.data.toList), .iface 127 (.pointer (some ⟨N, 0, none⟩))]) ∧ w.heap.size ≤ N ∧ w'.heap[N]? = some (.cells #[.string ⟨#[80, 97, 114, 115, 101, 73, 110, 116]⟩, .string s, .iface tp p] 143 (0, 0)) ∧ Below w.heap.size w w' := Any.strconv_ParseInt_10_at64_range_var Tryz.laysC174 s hlim h tp p w hvar
def Tryz.lays147_ren : Go.Shelf.Ren := ⟨fun | 147 => 30 | 221 => 50 | 268 => 59 | 138 => 60 | 143 => 61 | 195 => 70 | 197 => 71 | 218 => 72 | 219 => 73 | 260 => 86 | 217 => 87 | 225 => 88 | 224 => 89 | 267 => 90 | 266 => 98 | 314 => 99 | n => n, fun | 9 => 9 | 3 => 3 | 31 => 52 | 4 => 4 | 0 => 0 | 105 => 120 | 21 => 21 | 5 => 5 | 46 => 126 | 119 => 146 | 139 => 149 | 138 => 148 | 146 => 150 | 51 => 136 | n => n, fun | 1 => 1 | 3 => 4 | 4 => 5 | n => n⟩
theorem Tryz.lays147 : Go.Proofs.Lays.n147 Tryz.prog Tryz.lays147_ren := {
  mixed := by kernel_rfl
  f138 := Tryz.func60.trans (congrArg some (by kernel_rfl))
  f143 := Tryz.func61.trans (congrArg some (by kernel_rfl))
  f147 := Tryz.func30.trans (congrArg some (by kernel_rfl))
  f195 := Tryz.func70.trans (congrArg some (by kernel_rfl))
  f197 := Tryz.func71.trans (congrArg some (by kernel_rfl))
  f217 := Tryz.func87.trans (congrArg some (by kernel_rfl))
  f218 := Tryz.func72.trans (congrArg some (by kernel_rfl))
  f219 := Tryz.func73.trans (congrArg some (by kernel_rfl))
  f221 := Tryz.func50.trans (congrArg some (by kernel_rfl))
  f224 := Tryz.func89.trans (congrArg some (by kernel_rfl))
  f225 := Tryz.func88.trans (congrArg some (by kernel_rfl))
  f260 := Tryz.func86.trans (congrArg some (by kernel_rfl))
  f266 := Tryz.func98.trans (congrArg some (by kernel_rfl))
  f267 := Tryz.func90.trans (congrArg some (by kernel_rfl))
  f268 := Tryz.func59.trans (congrArg some (by kernel_rfl))
  f314 := Tryz.func99.trans (congrArg some (by kernel_rfl))
  t0 := Tryz.underlying0
  a0 := Tryz.isAgg0
  z0 := Tryz.sizeOf0
  v0 := Tryz.zeroValue0
  t3 := Tryz.underlying3
  a3 := Tryz.isAgg3
  z3 := Tryz.sizeOf3
  v3 := Tryz.zeroValue3
  t4 := Tryz.underlying4
  a4 := Tryz.isAgg4
  z4 := Tryz.sizeOf4
  v4 := Tryz.zeroValue4
  t5 := Tryz.underlying5
  a5 := Tryz.isAgg5
  z5 := Tryz.sizeOf5
  v5 := Tryz.zeroValue5
  t9 := Tryz.underlying9
  a9 := Tryz.isAgg9
  z9 := Tryz.sizeOf9
  v9 := Tryz.zeroValue9
  t21 := Tryz.underlying21
  a21 := Tryz.isAgg21
  z21 := Tryz.sizeOf21
  v21 := Tryz.zeroValue21
  t31 := Tryz.underlying52
  a31 := Tryz.isAgg52
  z31 := Tryz.sizeOf52
  v31 := Tryz.zeroValue52
  t46 := Tryz.underlying126
  a46 := Tryz.isAgg126
  z46 := Tryz.sizeOf126
  v46 := Tryz.zeroValue126
  t51 := Tryz.underlying136
  a51 := Tryz.isAgg136
  z51 := Tryz.sizeOf136
  v51 := Tryz.zeroValue136
  t105 := Tryz.underlying120
  a105 := Tryz.isAgg120
  z105 := Tryz.sizeOf120
  v105 := Tryz.zeroValue120
  t119 := Tryz.underlying146
  a119 := Tryz.isAgg146
  z119 := Tryz.sizeOf146
  t138 := Tryz.underlying148
  a138 := Tryz.isAgg148
  z138 := Tryz.sizeOf148
  v138 := Tryz.zeroValue148
  t139 := Tryz.underlying149
  a139 := Tryz.isAgg149
  z139 := Tryz.sizeOf149
  v139 := Tryz.zeroValue149
  t146 := Tryz.underlying150
  a146 := Tryz.isAgg150
  z146 := Tryz.sizeOf150
  v146 := Tryz.zeroValue150
  g1 := by kernel_rfl
  g3 := by kernel_rfl
  g4 := by kernel_rfl }
open Go.RowKit Go.Lib in
theorem Tryz.strings_SplitN (s sep : ByteArray) (n : Nat) (m : Int) (w : World) (hs : s.size < 4294967281) (hm : w.cell? ⟨1, 0, none⟩ = some (.int .i64 m)) (h1 : 1 ≤ sep.size) (hn : 1 ≤ n) (hn63 : n ≤ 9223372036854775807) :
    Calls Tryz.prog 30 #[.string s, .string sep, .int .i64 n] w fun e w' =>
      e = .returned (.slice (some ⟨w.heap.size, 0, none⟩) (Lib.splitB sep 0 (min n (s.size + 1) - 1) s).length (min n (s.size + 1))) ∧ w' = w.alloc (.cells (Lib.cellsOf (Lib.splitB sep 0 (min n (s.size + 1) - 1) s) (min n (s.size + 1))) 9) := Any.strings_SplitN Tryz.lays147 (by kernel_rfl) s sep n m w hs hm h1 hn hn63
end Go.Proofs
namespace Go.Proofs.YteclenloimbaeaaGreatDoor
open Go.Lib
namespace Spa
def nb (l : List UInt8) : Prop := ∀ c ∈ l, c ≠ 32
theorem pre_ne {b : UInt8} {l : List UInt8} (h : b ≠ 32) : List.isPrefixOf [(32 : UInt8)] (b :: l) = false := by
  simp only [List.isPrefixOf, Bool.and_true]
  exact beq_eq_false_iff_ne.2 fun e => h e.symm
theorem index_nb : ∀ {l : List UInt8}, nb l → index l [32] = -1
  | [], _ => rfl
  | b :: l, h => by
    unfold index
    rw [pre_ne (h b (by simp)), index_nb (l := l) (fun c hc => h c (by simp [hc]))]
    rfl
theorem index_app : ∀ {l : List UInt8} (r : List UInt8), nb l → index (l ++ 32 :: r) [32] = l.length
  | [], r, _ => by simp [index, List.isPrefixOf]
  | b :: l, r, h => by
    show index (b :: (l ++ 32 :: r)) [32] = _
    unfold index
    rw [pre_ne (h b (by simp)), index_app r (fun c hc => h c (by simp [hc]))]
    have : ((l.length : Int) == -1) = false := by rw [beq_eq_false_iff_ne]; omega
    simp [this]
theorem join_two (x y : List UInt8) (r : List (List UInt8)) : join (x :: y :: r) [32] = x ++ 32 :: join (y :: r) [32] := by
  rw [join_cons, join_cons]
  simp [joinTail]
theorem split_join : ∀ (ws : List (List UInt8)) (k : Nat), ws ≠ [] → (∀ x ∈ ws, nb x) → ws.length ≤ k + 1 → splitK [32] 0 k (join ws [32]) = ws
  | [], _, h, _, _ => absurd rfl h
  | [x], k, _, h, _ => by
    rw [join_one]
    cases k with
    | zero => rfl
    | succ k => unfold splitK; rw [index_nb (h x (by simp))]; rfl
  | x :: y :: r, 0, _, _, hl => by simp at hl
  | x :: y :: r, k + 1, _, h, hl => by
    rw [join_two]
    unfold splitK
    rw [index_app _ (h x (by simp)), if_neg (by rw [beq_iff_eq]; omega)]
    have e : ((x.length : Int)).toNat = x.length := by omega
    have e2 : (x ++ 32 :: join (y :: r) [32]).drop (x.length + [(32 : UInt8)].length) = join (y :: r) [32] := by
      rw [← List.drop_drop, List.drop_left]
      rfl
    rw [e, Nat.add_zero, List.take_left, e2, split_join (y :: r) k (by simp) (fun z hz => h z (by simp [hz])) (by simp at hl ⊢; omega)]
def wordsR : List UInt8 → List UInt8 → List (List UInt8)
  | cur, [] => [cur]
  | cur, c :: r => if c = 32 then cur :: wordsR [] r else wordsR (cur ++ [c]) r
theorem words_nb : ∀ (x cur : List UInt8), nb x → wordsR cur x = [cur ++ x]
  | [], cur, _ => by simp [wordsR]
  | c :: x, cur, h => by
    unfold wordsR
    rw [if_neg (h c (by simp)), words_nb x _ (fun z hz => h z (by simp [hz]))]
    simp
theorem words_app : ∀ (x cur t : List UInt8), nb x → wordsR cur (x ++ 32 :: t) = (cur ++ x) :: wordsR [] t
  | [], cur, t, _ => by
    show wordsR cur (32 :: t) = _
    rw [wordsR, if_pos rfl, List.append_nil]
  | c :: x, cur, t, h => by
    show (if c = 32 then cur :: wordsR [] (x ++ 32 :: t) else wordsR (cur ++ [c]) (x ++ 32 :: t)) = _
    rw [if_neg (h c (by simp)), words_app x _ t (fun z hz => h z (by simp [hz]))]
    simp
theorem words_join : ∀ (ws : List (List UInt8)), ws ≠ [] → (∀ x ∈ ws, nb x) → wordsR [] (join ws [32]) = ws
  | [], h, _ => absurd rfl h
  | [x], _, h => by rw [join_one, words_nb x [] (h x (by simp))]; rfl
  | x :: y :: r, _, h => by
    rw [join_two, words_app x [] _ (h x (by simp)), words_join (y :: r) (by simp) (fun z hz => h z (by simp [hz]))]
    rfl
theorem words_len : ∀ (s cur : List UInt8), 1 ≤ (wordsR cur s).length ∧ (wordsR cur s).length ≤ s.length + 1
  | [], cur => by simp [wordsR]
  | c :: s, cur => by
    have h1 := words_len s []
    have h2 := words_len s (cur ++ [c])
    unfold wordsR
    split <;> simp <;> omega
theorem words_each : ∀ (s cur x : List UInt8), x ∈ wordsR cur s → x.length ≤ cur.length + s.length
  | [], cur, x, h => by simp [wordsR] at h; subst h; simp
  | c :: s, cur, x, h => by
    unfold wordsR at h
    split at h
    · rcases List.mem_cons.1 h with rfl | h
      · simp
      · have := words_each s [] x h; simp at this ⊢; omega
    · have := words_each s _ x h; simp at this ⊢; omega
def dgt (d : Nat) : UInt8 := UInt8.ofNat (48 + d)
theorem dgt_nat {d : Nat} (h : d < 10) : (dgt d).toNat = 48 + d := by
  unfold dgt
  rw [UInt8.toNat_ofNat']
  omega
theorem dec_small {u : Nat} (h : u < 10) : decDigits u = [dgt u] := by rw [decDigits, dif_pos h]; rfl
theorem dec_big {u : Nat} (h : ¬ u < 10) : decDigits u = decDigits (u / 10) ++ [dgt (u % 10)] := by rw [decDigits, dif_neg h]; rfl
theorem dec_ind {p : Nat → List UInt8 → Prop} (h0 : ∀ u, u < 10 → p u [dgt u]) (h1 : ∀ u l, ¬ u < 10 → p (u / 10) l → p u (l ++ [dgt (u % 10)])) (u : Nat) : p u (decDigits u) := by
  induction u using Nat.strongRecOn with
  | ind u ih =>
    by_cases h : u < 10
    · rw [dec_small h]; exact h0 u h
    · rw [dec_big h]; exact h1 u _ h (ih _ (by omega))
theorem dec_each (u : Nat) : ∀ c ∈ decDigits u, 48 ≤ c.toNat ∧ c.toNat ≤ 57 := by
  refine dec_ind (p := fun _ l => ∀ c ∈ l, 48 ≤ c.toNat ∧ c.toNat ≤ 57) ?_ ?_ u
  · intro u h c hc
    rw [List.mem_singleton.1 hc, dgt_nat h]
    omega
  · intro u l h ih c hc
    rcases List.mem_append.1 hc with hc | hc
    · exact ih c hc
    · rw [List.mem_singleton.1 hc, dgt_nat (by omega)]
      omega
theorem dec_ne (u : Nat) : decDigits u ≠ [] := dec_ind (p := fun _ l => l ≠ []) (fun _ _ => by simp) (fun _ _ _ _ => by simp) u
theorem dec_len : ∀ (k u : Nat), u < 10 ^ (k + 1) → (decDigits u).length ≤ k + 1
  | 0, u, h => by rw [dec_small (by omega)]; simp
  | k + 1, u, h => by
    by_cases h1 : u < 10
    · rw [dec_small h1]; simp
    · rw [dec_big h1]
      have := dec_len k (u / 10) (by rw [Nat.pow_succ] at h; omega)
      simp
      omega
theorem itoa_dec {n : Int} (h : 0 ≤ n) : itoa n = decDigits n.toNat := by unfold itoa; rw [if_neg (by omega)]
theorem itoa_nb {n : Int} (h : 0 ≤ n) : nb (itoa n) := by
  rw [itoa_dec h]
  intro c hc e
  have := dec_each _ c hc
  rw [e] at this
  exact absurd this.1 (by decide)
theorem parse_snoc : ∀ (l : List UInt8) (acc v d : Nat), parseUint10 acc l = .ok v → d < 10 → v * 10 + d < 18446744073709551616 → parseUint10 acc (l ++ [dgt d]) = .ok (v * 10 + d)
  | [], acc, v, d, h, hd, hv => by
    simp only [parseUint10] at h
    injection h with h
    subst h
    show parseUint10 acc [dgt d] = _
    simp only [parseUint10, dgt_nat hd]
    rw [if_pos (by omega), if_neg (by omega), if_neg (by omega)]
    simp
  | c :: l, acc, v, d, h, hd, hv => by
    show parseUint10 acc (c :: (l ++ [dgt d])) = _
    simp only [parseUint10] at h ⊢
    split at h
    · rename_i h1
      rw [if_pos h1]
      split at h
      · cases h
      · rename_i h2
        rw [if_neg h2]
        split at h
        · cases h
        · rename_i h3
          rw [if_neg h3]
          exact parse_snoc l _ v d h hd hv
    · cases h
theorem parse_dec (u : Nat) : u < 18446744073709551616 → parseUint10 0 (decDigits u) = .ok u := by
  refine dec_ind (p := fun u l => u < 18446744073709551616 → parseUint10 0 l = .ok u) ?_ ?_ u
  · intro u h hu
    have := parse_snoc [] 0 0 u rfl h (by omega)
    simpa using this
  · intro u l h ih hu
    have := parse_snoc l 0 (u / 10) (u % 10) (ih (by omega)) (by omega) (by omega)
    rw [this]
    congr 1
    omega
def numP (l : List UInt8) : Int := match parseIntB 64 l with | .ok v => v | NumEnd.syntax => 0 | .range => intSat 64 l
theorem numP_itoa {n : Int} (h : 0 ≤ n) (h1 : n ≤ 9223372036854775807) : numP (itoa n) = n := by
  have hd := parse_dec n.toNat (by omega)
  have hne := dec_ne n.toNat
  have he := dec_each n.toNat
  rw [itoa_dec h]
  unfold numP
  cases hl : decDigits n.toNat with
  | nil => exact absurd hl hne
  | cons c r =>
    rw [hl] at hd he
    have hc := he c (by simp)
    have hp : parseIntB 64 (c :: r) = .ok n := by
      rw [parseIntB_plain 64 c r (by omega) (by omega), parseUintB_64]
      unfold parseMag
      rw [if_neg (by simp), hd]
      unfold signlessC
      simp only
      rw [if_neg (by have : (2 : Nat) ^ (64 - 1) = 9223372036854775808 := by decide
                     omega)]
      congr 1
      omega
    rw [hp]
theorem numP_in (l : List UInt8) : -9223372036854775808 ≤ numP l ∧ numP l ≤ 9223372036854775807 := by
  unfold numP
  split
  · rename_i v h
    have := parseIntB_bounds h
    have e : ((2 ^ (64 - 1) : Nat) : Int) = 9223372036854775808 := by decide
    rw [e] at this
    omega
  · decide
  · rw [intSat_64]; exact atoiSat_bounds l
def numF (n : Int) : List UInt8 → Int
  | [] => n
  | c :: r => if c.toNat < 48 ∨ 57 < c.toNat then -1 else if 9223372036854775807 < n * 10 + (c.toNat - 48 : Int) then -1 else numF (n * 10 + (c.toNat - 48 : Int)) r
def numR (l : List UInt8) : Int := if l.length < 1 ∨ 19 < l.length then -1 else numF 0 l
theorem numF_snoc : ∀ (l : List UInt8) (n v : Int) (d : Nat), 0 ≤ n → numF n l = v → 0 ≤ v → d < 10 → v * 10 + d ≤ 9223372036854775807 → numF n (l ++ [dgt d]) = v * 10 + d
  | [], n, v, d, hn, h, hv, hd, hm => by
    have h : n = v := h
    subst h
    show numF n [dgt d] = _
    simp only [numF, dgt_nat hd]
    rw [if_neg (by omega), if_neg (by omega)]
    omega
  | c :: l, n, v, d, hn, h, hv, hd, hm => by
    show numF n (c :: (l ++ [dgt d])) = _
    simp only [numF] at h ⊢
    split at h
    · omega
    · rename_i h1
      rw [if_neg h1]
      split at h
      · omega
      · rename_i h2
        rw [if_neg h2]
        exact numF_snoc l _ v d (by omega) h hv hd hm
theorem numF_dec (u : Nat) : (u : Int) ≤ 9223372036854775807 → numF 0 (decDigits u) = u := by
  refine dec_ind (p := fun u l => (u : Int) ≤ 9223372036854775807 → numF 0 l = u) ?_ ?_ u
  · intro u h hu
    have := numF_snoc [] 0 0 u (by omega) rfl (by omega) h (by omega)
    simpa using this
  · intro u l h ih hu
    have := numF_snoc l 0 ((u / 10 : Nat) : Int) (u % 10) (by omega) (ih (by omega)) (by omega) (by omega) (by omega)
    rw [this]
    omega
theorem numR_itoa {n : Int} (h : 0 ≤ n) (h1 : n ≤ 9223372036854775807) : numR (itoa n) = n := by
  rw [itoa_dec h]
  unfold numR
  have hl := dec_len 18 n.toNat (by have : (10 : Nat) ^ (18 + 1) = 10000000000000000000 := by decide
                                    omega)
  have hne := List.length_pos_iff.2 (dec_ne n.toNat)
  rw [if_neg (by omega), numF_dec _ (by omega)]
  omega
theorem numF_in : ∀ (l : List UInt8) (n : Int), 0 ≤ n → n ≤ 9223372036854775807 → -1 ≤ numF n l ∧ numF n l ≤ 9223372036854775807
  | [], n, h, h1 => by show -1 ≤ n ∧ n ≤ _; omega
  | c :: r, n, h, h1 => by
    simp only [numF]
    split
    · omega
    · split
      · omega
      · exact numF_in r _ (by omega) (by omega)
theorem numR_in (l : List UInt8) : -1 ≤ numR l ∧ numR l ≤ 9223372036854775807 := by
  unfold numR
  split
  · omega
  · exact numF_in l 0 (by omega) (by omega)
end Spa
namespace Spm
open Go.RowKit Mem Wpl Spa
def wOrder : List UInt8 := [111, 114, 100, 101, 114]
def wCancel : List UInt8 := [99, 97, 110, 99, 101, 108]
def wFill : List UInt8 := [102, 105, 108, 108]
def wAck : List UInt8 := [97, 99, 107]
def wKill : List UInt8 := [107, 105, 108, 108]
def wRearm : List UInt8 := [114, 101, 97, 114, 109]
def wLimit : List UInt8 := [108, 105, 109, 105, 116]
def wBuy : List UInt8 := [98, 117, 121]
def wSell : List UInt8 := [115, 101, 108, 108]
def sideL (x : Bool) : List UInt8 := if x then wSell else wBuy
def wordsM (m : M) : List (List UInt8) :=
  if m.k = 0 then [wOrder, itoa m.a, itoa m.s, sideL m.x, itoa m.p, itoa m.q, itoa m.n, itoa m.t]
  else if m.k = 1 then [wCancel, itoa m.i]
  else if m.k = 2 then [wFill, itoa m.i, itoa m.y]
  else if m.k = 3 then [wAck, itoa m.i]
  else if m.k = 4 then [wKill]
  else if m.k = 5 then [wRearm]
  else [wLimit, itoa m.z, itoa m.v]
def lineL (m : M) : List UInt8 := if rightM m = true then join (wordsM m) [32] else []
def at0 (ws : List (List UInt8)) (k : Nat) : List UInt8 := ws.getD k []
def guessW (num : List UInt8 → Int) (ws : List (List UInt8)) (d : M) : M :=
  if at0 ws 0 = wOrder then { m0 with k := 0, a := num (at0 ws 1), s := num (at0 ws 2), x := decide (at0 ws 3 = wSell), p := num (at0 ws 4), q := num (at0 ws 5), n := num (at0 ws 6), t := num (at0 ws 7) }
  else if at0 ws 0 = wCancel then { m0 with k := 1, i := num (at0 ws 1) }
  else if at0 ws 0 = wFill then { m0 with k := 2, i := num (at0 ws 1), y := num (at0 ws 2) }
  else if at0 ws 0 = wAck then { m0 with k := 3, i := num (at0 ws 1) }
  else if at0 ws 0 = wKill then { m0 with k := 4 }
  else if at0 ws 0 = wRearm then { m0 with k := 5 }
  else if at0 ws 0 = wLimit then { m0 with k := 6, z := num (at0 ws 1), v := num (at0 ws 2) }
  else d
def splP (s : List UInt8) : List (List UInt8) := splitK [32] 0 (min 8 (s.length + 1) - 1) s
def guessP (s : List UInt8) : M := guessW numP (splP s) m0
def guessR (s : List UInt8) : M := guessW numR (wordsR [] s) { m0 with k := -1 }
theorem guess_words {num : List UInt8 → Int} (hn : ∀ n : Int, 0 ≤ n → n ≤ 9223372036854775807 → num (itoa n) = n) {m : M} (hw : WfM m) (h : rightM m = true) (d : M) : guessW num (wordsM m) d = m := by
  obtain ⟨hk0, hk6, hal, ha, hs, hz, hi, hp, hq, hnn, ht, hy, hv⟩ := rightM_of h
  obtain ⟨_, _, _, ip, iq, iN, it, _, iy, _, iv⟩ := hw
  unfold inI at ip iq iN it iy iv
  have ea := hn m.a ha.1 (by omega)
  have es := hn m.s hs.1 (by omega)
  have ez := hn m.z hz.1 (by omega)
  have ei := hn m.i hi.1 (by omega)
  have ep := hn m.p hp ip.2
  have eq := hn m.q hq iq.2
  have en := hn m.n hnn iN.2
  have et := hn m.t ht it.2
  have ey := hn m.y hy iy.2
  have ev := hn m.v hv iv.2
  have hx : decide (sideL m.x = wSell) = m.x := by cases m.x <;> rfl
  have hk : m.k = 0 ∨ m.k = 1 ∨ m.k = 2 ∨ m.k = 3 ∨ m.k = 4 ∨ m.k = 5 ∨ m.k = 6 := by omega
  refine Eq.trans ?_ hal.symm
  unfold wordsM alM
  rcases hk with hk | hk | hk | hk | hk | hk | hk
  · rw [if_pos hk, if_pos hk]
    show ({ m0 with k := 0, a := num (itoa m.a), s := num (itoa m.s), x := decide (sideL m.x = wSell), p := num (itoa m.p), q := num (itoa m.q), n := num (itoa m.n), t := num (itoa m.t) } : M) = _
    rw [ea, es, hx, ep, eq, en, et, hk]
  · rw [if_neg (by omega), if_pos hk, if_neg (by omega), if_pos (Or.inl hk)]
    show ({ m0 with k := 1, i := num (itoa m.i) } : M) = _
    rw [ei, hk]
  · rw [if_neg (by omega), if_neg (by omega), if_pos hk, if_neg (by omega), if_neg (by omega), if_pos hk]
    show ({ m0 with k := 2, i := num (itoa m.i), y := num (itoa m.y) } : M) = _
    rw [ei, ey, hk]
  · rw [if_neg (by omega), if_neg (by omega), if_neg (by omega), if_pos hk, if_neg (by omega), if_pos (Or.inr hk)]
    show ({ m0 with k := 3, i := num (itoa m.i) } : M) = _
    rw [ei, hk]
  · rw [if_neg (by omega), if_neg (by omega), if_neg (by omega), if_neg (by omega), if_pos hk, if_neg (by omega), if_neg (by omega), if_neg (by omega), if_neg (by omega)]
    show ({ m0 with k := 4 } : M) = _
    rw [hk]
  · rw [if_neg (by omega), if_neg (by omega), if_neg (by omega), if_neg (by omega), if_neg (by omega), if_pos hk, if_neg (by omega), if_neg (by omega), if_neg (by omega), if_neg (by omega)]
    show ({ m0 with k := 5 } : M) = _
    rw [hk]
  · rw [if_neg (by omega), if_neg (by omega), if_neg (by omega), if_neg (by omega), if_neg (by omega), if_neg (by omega), if_neg (by omega), if_neg (by omega), if_neg (by omega), if_pos hk]
    show ({ m0 with k := 6, z := num (itoa m.z), v := num (itoa m.v) } : M) = _
    rw [ez, ev, hk]
theorem nb_lit (l : List UInt8) (h : (l.all fun c => c != 32) = true) : nb l := fun c hc e => by
  have := List.all_eq_true.1 h c hc
  rw [e] at this
  exact absurd this (by decide)
theorem words_ok {m : M} (h : rightM m = true) : wordsM m ≠ [] ∧ (∀ x ∈ wordsM m, nb x) ∧ (wordsM m).length ≤ 8 := by
  obtain ⟨hk0, hk6, hal, ha, hs, hz, hi, hp, hq, hnn, ht, hy, hv⟩ := rightM_of h
  have hx : nb (sideL m.x) := by cases m.x <;> exact nb_lit _ (by decide)
  have ia := itoa_nb ha.1
  have is := itoa_nb hs.1
  have iz := itoa_nb hz.1
  have ii := itoa_nb hi.1
  have ip := itoa_nb hp
  have iq := itoa_nb hq
  have iN := itoa_nb hnn
  have it := itoa_nb ht
  have iy := itoa_nb hy
  have iv := itoa_nb hv
  have w1 : nb wOrder := nb_lit _ (by decide)
  have w2 : nb wCancel := nb_lit _ (by decide)
  have w3 : nb wFill := nb_lit _ (by decide)
  have w4 : nb wAck := nb_lit _ (by decide)
  have w5 : nb wKill := nb_lit _ (by decide)
  have w6 : nb wRearm := nb_lit _ (by decide)
  have w7 : nb wLimit := nb_lit _ (by decide)
  unfold wordsM
  repeat' split
  all_goals
    refine ⟨by simp, ?_, by simp⟩
    intro x hx
    simp only [List.mem_cons, List.mem_nil_iff, or_false] at hx
    first
      | (rcases hx with rfl | rfl | rfl | rfl | rfl | rfl | rfl | rfl <;> assumption)
      | (rcases hx with rfl | rfl | rfl <;> assumption)
      | (rcases hx with rfl | rfl <;> assumption)
      | (subst hx; assumption)
theorem join_ge : ∀ (ws : List (List UInt8)), ws.length ≤ (join ws [32]).length + 1
  | [] => by simp
  | x :: r => by rw [join_length]; simp
theorem line_ne {m : M} (h : rightM m = true) : lineL m ≠ [] := by
  unfold lineL wordsM
  rw [if_pos h]
  repeat' split
  all_goals
    rw [join_cons]
    intro e
    have := List.append_eq_nil_iff.1 e
    exact absurd this.1 (by decide)
theorem guessP_line {m : M} (hw : WfM m) (h : rightM m = true) : guessP (lineL m) = m := by
  obtain ⟨h0, h1, h2⟩ := words_ok h
  have h3 := join_ge (wordsM m)
  unfold guessP splP lineL
  rw [if_pos h, split_join _ _ h0 h1 (by omega)]
  exact guess_words (fun n => numP_itoa) hw h m0
theorem guessR_line {m : M} (hw : WfM m) (h : rightM m = true) : guessR (lineL m) = m := by
  obtain ⟨h0, h1, h2⟩ := words_ok h
  unfold guessR lineL
  rw [if_pos h, words_join _ h0 h1]
  exact guess_words (fun n => numR_itoa) hw h _
theorem guess_wf {num : List UInt8 → Int} (hn : ∀ l, inI (num l)) (ws : List (List UInt8)) {d : M} (hd : WfM d) : WfM (guessW num ws d) := by
  have h0 : inI 0 := by unfold inI; omega
  have h1 : inI 1 := by unfold inI; omega
  have h2 : inI 2 := by unfold inI; omega
  have h3 : inI 3 := by unfold inI; omega
  have h4 : inI 4 := by unfold inI; omega
  have h5 : inI 5 := by unfold inI; omega
  have h6 : inI 6 := by unfold inI; omega
  unfold guessW
  repeat' split
  all_goals first | exact hd | (unfold WfM m0; refine ⟨?_, ?_, ?_, ?_, ?_, ?_, ?_, ?_, ?_, ?_, ?_⟩ <;> first | assumption | exact hn _)
theorem m0_wf : WfM m0 := by
  have h0 : inI 0 := by unfold inI; omega
  exact ⟨h0, h0, h0, h0, h0, h0, h0, h0, h0, h0, h0⟩
theorem guessP_wf (s : List UInt8) : WfM (guessP s) := guess_wf (fun l => numP_in l) _ m0_wf
theorem guessR_wf (s : List UInt8) : WfM (guessR s) := by
  have h0 : inI 0 := by unfold inI; omega
  exact guess_wf (fun l => ⟨by have := (numR_in l).1; omega, (numR_in l).2⟩) _ ⟨by show inI (-1); unfold inI; omega, h0, h0, h0, h0, h0, h0, h0, h0, h0, h0⟩
def parseP (s : List UInt8) : M × Bool := if lineL (guessP s) = s then (guessP s, true) else (m0, false)
def parseR (s : List UInt8) : M × Bool := if s = [] ∨ ¬ lineL (guessR s) = s then (m0, false) else (guessR s, true)
theorem line_wrong {m : M} (h : ¬ rightM m = true) : lineL m = [] := by unfold lineL; rw [if_neg h]
theorem right_m0 : rightM m0 = true := by decide
theorem guess_nil : guessP [] = m0 := by rfl
theorem parseP_line {m : M} (hw : WfM m) (h : rightM m = true) : parseP (lineL m) = (m, true) := by
  unfold parseP
  rw [guessP_line hw h, if_pos rfl]
theorem parseP_nil : parseP [] = (m0, false) := by
  unfold parseP
  rw [guess_nil, if_neg (line_ne right_m0)]
theorem parseP_right {s : List UInt8} (h : lineL (guessP s) = s) : rightM (guessP s) = true := by
  by_cases hr : rightM (guessP s) = true
  · exact hr
  · rw [line_wrong hr] at h
    rw [← h, guess_nil]
    exact right_m0
theorem parse_same (s : List UInt8) : parseR s = parseP s := by
  unfold parseR parseP
  by_cases hP : lineL (guessP s) = s
  · have hr := parseP_right hP
    have hg : guessR s = guessP s := by
      have := guessR_line (guessP_wf s) hr
      rw [hP] at this
      exact this
    have hne : s ≠ [] := by rw [← hP]; exact line_ne hr
    rw [hg, if_pos hP, if_neg (by rintro (e | e); exact hne e; exact e hP)]
  · rw [if_neg hP]
    by_cases hs : s = []
    · rw [if_pos (Or.inl hs)]
    · by_cases hR : lineL (guessR s) = s
      · exfalso
        have hr : rightM (guessR s) = true := by
          by_cases hr : rightM (guessR s) = true
          · exact hr
          · rw [line_wrong hr] at hR
            exact absurd hR.symm hs
        have := guessP_line (guessR_wf s) hr
        rw [hR] at this
        rw [this] at hP
        exact hP hR
      · rw [if_pos (Or.inr hR)]
theorem itoa_len {n : Int} (h : inI n) : (itoa n).length ≤ 21 := itoa_length_le n h.1 h.2
theorem line_len {m : M} (hw : WfM m) : (lineL m).length ≤ 200 := by
  obtain ⟨_, ia, is, ip, iq, iN, it, ii, iy, iz, iv⟩ := hw
  have ia := itoa_len ia
  have is := itoa_len is
  have ip := itoa_len ip
  have iq := itoa_len iq
  have iN := itoa_len iN
  have it := itoa_len it
  have ii := itoa_len ii
  have iy := itoa_len iy
  have iz := itoa_len iz
  have iv := itoa_len iv
  have hx : (sideL m.x).length ≤ 4 := by cases m.x <;> decide
  unfold lineL wordsM
  split
  · repeat' split
    all_goals
      rw [join_length]
      simp only [lens, List.map_cons, List.map_nil, List.sum_cons, List.sum_nil, List.length_cons, List.length_nil, wOrder, wCancel, wFill, wAck, wKill, wRearm, wLimit]
      omega
  · simp
end Spm
namespace Shw
open Kap Go.ChangeShapes Go.WideShapes Go.ChangeAt Go.RowKit Mem Wpl Spa Spm
structure Lw (w : World) : Prop where
  m : ∃ m : Int, w.cell? ⟨1, 0, none⟩ = some (.int .i64 m)
  s : ∃ tp p, w.var? Tryz.prog "strconv.ErrSyntax" = some #[.iface tp p]
  r : ∃ tp p, w.var? Tryz.prog "strconv.ErrRange" = some #[.iface tp p]
  t : Lib.TabIs Tryz.prog w "internal/strconv.uint64pow10" .u64 Lib.pow10Tab
theorem gs : Tryz.prog.globalNamed "strconv.ErrSyntax" = some 2 := by kernel_rfl
theorem gr : Tryz.prog.globalNamed "strconv.ErrRange" = some 3 := by kernel_rfl
theorem gt : Tryz.prog.globalNamed "internal/strconv.uint64pow10" = some 0 := by kernel_rfl
theorem var_b {w w' : World} (hb : Below w.heap.size w w') {n : String} {g : Nat} {cs : Array Value} {v : Value} (hg : Tryz.prog.globalNamed n = some g) (h : w.var? Tryz.prog n = some cs) (hv : cs[0]? = some v) : w'.var? Tryz.prog n = some cs :=
  var?_below hb hg (World.block_lt_of_cell? w ⟨g, 0, none⟩ ((World.var?_cell hg h 0).trans hv)) h
theorem Lw.below {w w' : World} (h : Lw w) (hb : Below w.heap.size w w') : Lw w' := by
  obtain ⟨⟨m, hm⟩, ⟨t1, p1, h1⟩, ⟨t2, p2, h2⟩, h3⟩ := h
  exact ⟨⟨m, (hb.cell (World.block_lt_of_cell? w _ hm)).trans hm⟩, ⟨t1, p1, var_b hb gs h1 rfl⟩, ⟨t2, p2, var_b hb gr h2 rfl⟩, var_b hb gt h3 rfl⟩
theorem lwb {w w' : World} (h : Hid (Lw w)) (hb : Below w.heap.size w w') : Hid (Lw w') := Lw.below h hb
abbrev sv (l : List UInt8) : Value := .string ⟨l.toArray⟩
def MadeS (l : List UInt8) (w : World) (e : Ending) (w' : World) : Prop := e = .returned (sv l) ∧ Below w.heap.size w w'
theorem digI_any (n : Int) (hn : inI n) (w : World) (hL : Hid (Lw w)) : Calls Tryz.prog 19 #[.int .i64 n] w (MadeS (itoa n) w) := by
  obtain ⟨h0, h1⟩ := hn
  have ht := κ hL.out.t
  clear hL
  go_enter Tryz.func19, Tryz.ntmps19
  go_wp2_with fail
  refine (Tryz.strconv_FormatInt_10 n h0 h1 _ ht.out).mono ?_
  rintro e w1 ⟨rfl, k, os, rfl⟩
  go_wp2_with fail
  go_ret
  exact ⟨rfl, Lib.below_grow _ _ (Nat.le_refl _) _ _⟩
theorem digL_any (n : Int) (hn : inI n) (w : World) (hL : Hid (Lw w)) : Calls Tryz.prog 21 #[.int .i64 n] w (MadeS (itoa n) w) := by
  obtain ⟨h0, h1⟩ := hn
  have ht := κ hL.out.t
  clear hL
  go_enter Tryz.func21, Tryz.ntmps21
  go_wp2_with fail
  refine (Tryz.strconv_FormatInt_10 n h0 h1 _ ht.out).mono ?_
  rintro e w1 ⟨rfl, k, os, rfl⟩
  go_wp2_with fail
  go_ret
  exact ⟨rfl, Lib.below_grow _ _ (Nat.le_refl _) _ _⟩
theorem side_any (x : Bool) (w : World) : Calls Tryz.prog 20 #[.bool x] w (fun e w' => e = .returned (sv (sideL x)) ∧ w = w') := by
  cases x
  all_goals
    go_enter Tryz.func20, Tryz.ntmps20
    go_wp2_with fail
    go_ret
    exact ⟨rfl, rfl⟩
def stx (l : List (List UInt8)) : List Value := l.map sv
theorem stx_len (l : List (List UInt8)) : (stx l).length = l.length := by simp [stx]
def Txs (w : World) (B : Nat) (A : Option Addr) (l : List (List UInt8)) : Prop := Rd w B A (stx l)
theorem Txs.at {w : World} {B : Nat} {A : Option Addr} {l : List (List UInt8)} (h : Txs w B A l) {i : Nat} (hi : i < l.length) :
    ∃ b o, A = some ⟨b, o, none⟩ ∧ b < B ∧ ∀ j, j < l.length → w.cell? ⟨b, o + j, none⟩ = some (sv (at0 l j)) := by
  obtain ⟨b, o, hA, hb, hc⟩ := Rd.at h (by intro e; have := stx_len l; rw [e] at this; simp at this; omega)
  exact ⟨b, o, hA, hb, fun j hj => hc j _ (by unfold stx at0; rw [List.getElem?_map, List.getElem?_eq_getElem hj, List.getD_eq_getElem?_getD, List.getElem?_eq_getElem hj]; rfl)⟩
theorem line_any (b n : Nat) (ws : List (List UInt8)) (w : World) (h : Hid (Txs w w.heap.size (some ⟨b, 0, none⟩) ws)) (hn : Hid (ws.length = n)) (h0 : 0 < n) (hl : Hid ((join ws [32]).length ≤ 200)) :
    Calls Tryz.prog 18 #[.slice (some ⟨b, 0, none⟩) n n, ] w (MadeS (join ws [32]) w) := by
  have hm : (ws.map fun l => (⟨l.toArray⟩ : ByteArray)).map (·.data.toList) = ws := by rw [List.map_map]; exact (List.map_congr_left fun x _ => rfl).trans (List.map_id _)
  have hlen : (ws.map fun l => (⟨l.toArray⟩ : ByteArray)).length = n := by rw [List.length_map]; exact hn.out
  obtain ⟨b', o', hA, hb, hc⟩ := h.out.at (i := 0) (by have := hn.out; omega)
  injection hA with hA
  injection hA with e1 e2
  subst e1 e2
  have c := Tryz.strings_Join b 0 n (ws.map fun l => (⟨l.toArray⟩ : ByteArray)) ⟨#[32]⟩ w (by
    intro j x hx
    have hj : j < ws.length := by
      have := (List.getElem?_eq_some_iff.1 hx).1
      simpa using this
    rw [hc j hj]
    rw [List.getElem?_map, List.getElem?_eq_getElem hj] at hx
    injection hx with hx
    rw [← hx]
    unfold at0
    rw [List.getD_eq_getElem?_getD, List.getElem?_eq_getElem hj]
    rfl) hb (by rw [hlen]; have := hl.out; have := join_ge ws; have := hn.out; omega) (by rw [hlen]; exact Nat.le_refl _) (by rw [hm]; have := hl.out; show (join ws [32]).length ≤ _; omega)
  rw [hm, hlen] at c
  have C := κ c
  clear c hc hlen hm hn hl h
  go_enter Tryz.func18, Tryz.ntmps18
  go_wp2_with fail
  refine C.out.mono ?_
  rintro e w1 ⟨rfl, hb1⟩
  have B1 := κ hb1
  clear hb1
  go_wp2_with fail
  go_ret
  exact ⟨rfl, B1.out⟩
theorem word_any (A : Option Addr) (c : Nat) (ws : List (List UInt8)) (k : Nat) (w : World) (h : Hid (Txs w w.heap.size A ws)) (hk : (k : Int) ≤ 10) (hw : (ws.length : Int) ≤ 1000) :
    Calls Tryz.prog 31 #[.slice A ws.length c, .int .i64 k] w (fun e w' => e = .returned (sv (at0 ws k)) ∧ w = w') := by
  by_cases hlt : ws.length ≤ k
  · have h1 : decide (ws.length ≤ k) = true := decide_eq_true hlt
    have e : at0 ws k = [] := by unfold at0; rw [List.getD_eq_getElem?_getD, List.getElem?_eq_none hlt]; rfl
    rw [e]
    clear e
    go_enter Tryz.func31, Tryz.ntmps31
    go_wp2_with fail
    go_ret
    exact ⟨rfl, rfl⟩
  · obtain ⟨b, o, rfl, hb, hc⟩ := h.out.at (i := k) (by omega)
    have hck := hc k (by omega)
    have h1 : decide (ws.length ≤ k) = false := decide_eq_false hlt
    have hlt : k < ws.length := by omega
    clear hc h
    generalize at0 ws k = x at hck ⊢
    generalize ws.length = n at *
    go_enter Tryz.func31, Tryz.ntmps31
    go_wp2_with fail
    go_ret
    exact ⟨rfl, rfl⟩
def MadeN (x : Int) (w : World) (e : Ending) (w' : World) : Prop := e = .returned (.int .i64 x) ∧ Below w.heap.size w w'
def MadeP (x : Int) (w : World) (e : Ending) (w' : World) : Prop := ∃ v, e = .returned (.tuple #[.int .i64 x, v]) ∧ Below w.heap.size w w'
theorem parse_any (l : List UInt8) (w : World) (hL : Hid (Lw w)) (hl : l.length ≤ 400) : Calls Tryz.prog 51 #[sv l, .int .i64 10, .int .i64 64] w (MadeP (numP l) w) := by
  have hs : (⟨l.toArray⟩ : ByteArray).size = l.length := rfl
  obtain ⟨_, ⟨t1, p1, h1⟩, ⟨t2, p2, h2⟩, _⟩ := hL.out
  unfold numP
  rcases hp : parseIntB 64 l with v | _ | _
  · refine (Tryz.strconv_ParseInt_10_at64_ok ⟨l.toArray⟩ (by omega) v hp w).mono ?_
    rintro e w' ⟨he, hw⟩
    refine ⟨_, he, ?_⟩
    rcases hw with rfl | ⟨t, rfl⟩
    · exact Below.refl _ _
    · exact Lib.bytesWorld_below _ _ _
  · refine (Tryz.strconv_ParseInt_10_at64_syntax_var ⟨l.toArray⟩ (by omega) hp t1 p1 w h1).mono ?_
    rintro e w' ⟨N, he, _, _, hb⟩
    exact ⟨_, he, hb⟩
  · refine (Tryz.strconv_ParseInt_10_at64_range_var ⟨l.toArray⟩ (by omega) hp t2 p2 w h2).mono ?_
    rintro e w' ⟨N, he, _, _, hb⟩
    exact ⟨_, he, hb⟩
theorem number_any (A : Option Addr) (c : Nat) (ws : List (List UInt8)) (k : Nat) (w : World) (hL : Hid (Lw w)) (h : Hid (Txs w w.heap.size A ws)) (hk : (k : Int) ≤ 10) (hw : (ws.length : Int) ≤ 1000) (hx : Hid ((at0 ws k).length ≤ 400)) :
    Calls Tryz.prog 32 #[.slice A ws.length c, .int .i64 k] w (MadeN (numP (at0 ws k)) w) := by
  go_enter Tryz.func32, Tryz.ntmps32
  go_wp2_with fail
  refine (word_any A c ws k w h hk hw).mono ?_
  rintro e w1 ⟨rfl, rfl⟩
  go_wp2_with fail
  refine (parse_any (at0 ws k) w hL hx.out).mono ?_
  rintro e w1 ⟨v, rfl, hb1⟩
  have B1 := κ hb1
  clear hb1 h hL hx
  go_wp2_with fail
  go_ret
  exact ⟨rfl, B1.out⟩
end Shw
end Go.Proofs.YteclenloimbaeaaGreatDoor

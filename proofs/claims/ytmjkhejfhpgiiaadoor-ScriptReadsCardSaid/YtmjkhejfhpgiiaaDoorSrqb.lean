/- Texts side by side. -/
import Derived.Shelf.Strings.OnBuilder
import Derived.Shelf.Strconv.Itoa4
import Derived.Shelf.LaysM
import Derived.Shelf.LaysC
import Derived.Shelf.Strconv.ParseIntPublic10
import Derived.Shelf.Strconv.ErrVarParseInt
import Derived.Shelf.Strings.Split
import Derived.Lib.SplitLaws
import Derived.Lib.Join
import Derived.Lib.ItoaMem
import Derived.Lib.ItoaLen
import Derived.Lib.ParseIntBTie
import Derived.Lib.ParseIntBCases
import Derived.WalkSmall
import Derived.Lib.AppendIntMem
import Derived.Test.YtmjkhejfhpgiiaaDoorProg
import Derived.Test.YtmjkhejfhpgiiaaDoorSrqa
set_option linter.unusedVariables false
set_option linter.unusedSimpArgs false
set_option maxRecDepth 100000
set_option maxHeartbeats 16000000
namespace Go.Proofs
open Go.Shelf
def Tryd.lays156_ren : Go.Shelf.Ren := ⟨fun | 156 => 40 | 165 => 44 | 166 => 45 | 169 => 46 | 240 => 53 | 241 => 54 | 276 => 68 | 277 => 69 | n => n, fun | 31 => 88 | 9 => 9 | 3 => 3 | 4 => 4 | 0 => 0 | 20 => 20 | 72 => 102 | 76 => 104 | 70 => 100 | 37 => 22 | 75 => 97 | 127 => 110 | 164 => 128 | 5 => 5 | 80 => 106 | n => n, fun | n => n⟩
theorem Tryd.lays156 : Go.Proofs.Lays.n156 Tryd.prog Tryd.lays156_ren := {
  mixed := by kernel_rfl
  f156 := Tryd.func40.trans (congrArg some (by kernel_rfl))
  f165 := Tryd.func44.trans (congrArg some (by kernel_rfl))
  f166 := Tryd.func45.trans (congrArg some (by kernel_rfl))
  f169 := Tryd.func46.trans (congrArg some (by kernel_rfl))
  f240 := Tryd.func53.trans (congrArg some (by kernel_rfl))
  f241 := Tryd.func54.trans (congrArg some (by kernel_rfl))
  f276 := Tryd.func68.trans (congrArg some (by kernel_rfl))
  f277 := Tryd.func69.trans (congrArg some (by kernel_rfl))
  t0 := Tryd.underlying0
  a0 := Tryd.isAgg0
  z0 := Tryd.sizeOf0
  v0 := Tryd.zeroValue0
  t3 := Tryd.underlying3
  a3 := Tryd.isAgg3
  z3 := Tryd.sizeOf3
  v3 := Tryd.zeroValue3
  t4 := Tryd.underlying4
  a4 := Tryd.isAgg4
  z4 := Tryd.sizeOf4
  v4 := Tryd.zeroValue4
  t9 := Tryd.underlying9
  a9 := Tryd.isAgg9
  z9 := Tryd.sizeOf9
  v9 := Tryd.zeroValue9
  t20 := Tryd.underlying20
  a20 := Tryd.isAgg20
  z20 := Tryd.sizeOf20
  v20 := Tryd.zeroValue20
  t31 := Tryd.underlying88
  a31 := Tryd.isAgg88
  z31 := Tryd.sizeOf88
  v31 := Tryd.zeroValue88
  t37 := Tryd.underlying22
  a37 := Tryd.isAgg22
  z37 := Tryd.sizeOf22
  v37 := Tryd.zeroValue22
  t70 := Tryd.underlying100
  a70 := Tryd.isAgg100
  z70 := Tryd.sizeOf100
  v70 := Tryd.zeroValue100
  t72 := Tryd.underlying102
  a72 := Tryd.isAgg102
  z72 := Tryd.sizeOf102
  v72 := Tryd.zeroValue102
  t75 := Tryd.underlying97
  a75 := Tryd.isAgg97
  z75 := Tryd.sizeOf97
  v75 := Tryd.zeroValue97
  t76 := Tryd.underlying104
  a76 := Tryd.isAgg104
  z76 := Tryd.sizeOf104
  v76 := Tryd.zeroValue104
  t127 := Tryd.underlying110
  a127 := Tryd.isAgg110
  z127 := Tryd.sizeOf110
  v127 := Tryd.zeroValue110
  t164 := Tryd.underlying128
  a164 := Tryd.isAgg128
  z164 := Tryd.sizeOf128
  v164 := Tryd.zeroValue128 }
theorem Tryd.Builder_Extra_156 : Builder.Extra Tryd.prog Tryd.lays156_ren := {
  sizeBuilder := by kernel_rfl
  liesBuilder := by kernel_rfl
  t5 := Tryd.underlying5
  a5 := Tryd.isAgg5
  z5 := Tryd.sizeOf5
  v5 := Tryd.zeroValue5
  infoByte := by kernel_rfl
  cellsByte := by kernel_rfl
  sizeByte := by kernel_rfl
  neB5 := by decide }
open Go.RowKit in
theorem Tryd.strings_Join (bk o c : Nat) (xs : List ByteArray) (sep : ByteArray) (w : World) (hcells : ∀ (j : Nat) x, xs[j]? = some x → w.cell? ⟨bk, o + j, none⟩ = some (.string x)) (hbk : bk < w.heap.size) (hN : xs.length ≤ 140737488355328) (hcap : xs.length ≤ c) (hlen : (Lib.join (xs.map (·.data.toList)) sep.data.toList).length ≤ 140737488355328) :
    Calls Tryd.prog 40 #[.slice (some ⟨bk, o, none⟩) xs.length c, .string sep] w fun e w' => e = .returned (.string ⟨(Lib.join (xs.map (·.data.toList)) sep.data.toList).toArray⟩) ∧ Below w.heap.size w w' := Any.strings_Join Tryd.lays156 Tryd.Builder_Extra_156 bk o c xs sep w hcells hbk hN hcap hlen
def Tryd.laysM173_ren : Go.Shelf.Ren := ⟨fun | 173 => 41 | 246 => 47 | 283 => 55 | 284 => 56 | 285 => 57 | 286 => 58 | 129 => 71 | 317 => 70 | 318 => 72 | 319 => 73 | 320 => 74 | 337 => 85 | 338 => 86 | n => n, fun | 2 => 2 | 3 => 3 | 9 => 9 | 4 => 4 | 171 => 111 | 0 => 0 | 53 => 112 | 37 => 22 | 5 => 5 | 173 => 115 | 212 => 133 | 51 => 134 | 20 => 20 | 213 => 135 | 46 => 124 | 232 => 154 | 233 => 155 | n => n, fun | 17 => 0 | 18 => 6 | 19 => 7 | n => n⟩
theorem Tryd.laysM173 : Go.Proofs.LaysM.n173 Tryd.prog Tryd.laysM173_ren := {
  mixed := by kernel_rfl
  f129 := Tryd.func71.trans (congrArg some (by kernel_rfl))
  f173 := Tryd.func41.trans (congrArg some (by kernel_rfl))
  f246 := Tryd.func47.trans (congrArg some (by kernel_rfl))
  f283 := Tryd.func55.trans (congrArg some (by kernel_rfl))
  f284 := Tryd.func56.trans (congrArg some (by kernel_rfl))
  f285 := Tryd.func57.trans (congrArg some (by kernel_rfl))
  f286 := Tryd.func58.trans (congrArg some (by kernel_rfl))
  f317 := Tryd.func70.trans (congrArg some (by kernel_rfl))
  f318 := Tryd.func72.trans (congrArg some (by kernel_rfl))
  f319 := Tryd.func73.trans (congrArg some (by kernel_rfl))
  f320 := Tryd.func74.trans (congrArg some (by kernel_rfl))
  f337 := Tryd.func85.trans (congrArg some (by kernel_rfl))
  f338 := Tryd.func86.trans (congrArg some (by kernel_rfl))
  t0 := Tryd.underlying0
  a0 := Tryd.isAgg0
  z0 := Tryd.sizeOf0
  v0 := Tryd.zeroValue0
  t2 := Tryd.underlying2
  a2 := Tryd.isAgg2
  z2 := Tryd.sizeOf2
  v2 := Tryd.zeroValue2
  t3 := Tryd.underlying3
  a3 := Tryd.isAgg3
  z3 := Tryd.sizeOf3
  v3 := Tryd.zeroValue3
  t4 := Tryd.underlying4
  a4 := Tryd.isAgg4
  z4 := Tryd.sizeOf4
  v4 := Tryd.zeroValue4
  t5 := Tryd.underlying5
  a5 := Tryd.isAgg5
  z5 := Tryd.sizeOf5
  v5 := Tryd.zeroValue5
  t9 := Tryd.underlying9
  a9 := Tryd.isAgg9
  z9 := Tryd.sizeOf9
  v9 := Tryd.zeroValue9
  t20 := Tryd.underlying20
  a20 := Tryd.isAgg20
  z20 := Tryd.sizeOf20
  v20 := Tryd.zeroValue20
  t37 := Tryd.underlying22
  a37 := Tryd.isAgg22
  z37 := Tryd.sizeOf22
  v37 := Tryd.zeroValue22
  t46 := Tryd.underlying124
  a46 := Tryd.isAgg124
  z46 := Tryd.sizeOf124
  v46 := Tryd.zeroValue124
  t51 := Tryd.underlying134
  a51 := Tryd.isAgg134
  z51 := Tryd.sizeOf134
  v51 := Tryd.zeroValue134
  t53 := Tryd.underlying112
  a53 := Tryd.isAgg112
  z53 := Tryd.sizeOf112
  v53 := Tryd.zeroValue112
  t171 := Tryd.underlying111
  a171 := Tryd.isAgg111
  z171 := Tryd.sizeOf111
  v171 := Tryd.zeroValue111
  t173 := Tryd.underlying115
  a173 := Tryd.isAgg115
  z173 := Tryd.sizeOf115
  v173 := Tryd.zeroValue115
  t212 := Tryd.underlying133
  a212 := Tryd.isAgg133
  z212 := Tryd.sizeOf133
  v212 := Tryd.zeroValue133
  t213 := Tryd.underlying135
  a213 := Tryd.isAgg135
  z213 := Tryd.sizeOf135
  t232 := Tryd.underlying154
  a232 := Tryd.isAgg154
  z232 := Tryd.sizeOf154
  v232 := Tryd.zeroValue154
  t233 := Tryd.underlying155
  a233 := Tryd.isAgg155
  z233 := Tryd.sizeOf155
  v233 := Tryd.zeroValue155
  g17 := by kernel_rfl
  g18 := by kernel_rfl
  g19 := by kernel_rfl
  i0 := by kernel_rfl
  i2 := by kernel_rfl
  i3 := by kernel_rfl
  i4 := by kernel_rfl
  i5 := by kernel_rfl
  i9 := by kernel_rfl
  i20 := by kernel_rfl
  i37 := by kernel_rfl
  i46 := by kernel_rfl
  i51 := by kernel_rfl
  i53 := by kernel_rfl
  i171 := by kernel_rfl
  i173 := by kernel_rfl
  i212 := by kernel_rfl
  i232 := by kernel_rfl
  i233 := by kernel_rfl
  m17 := by kernel_rfl
  m18 := by kernel_rfl
  m19 := by kernel_rfl }
open Go.RowKit Go.Sort Go.Lib in
theorem Tryd.strconv_FormatInt_10 (n : Int) (h0 : -9223372036854775808 ≤ n) (h1 : n ≤ 9223372036854775807) (w : World) (htab : Lib.TabIs Tryd.prog w "internal/strconv.uint64pow10" .u64 Lib.pow10Tab) :
    Calls Tryd.prog 41 #[.int .i64 n, .int .i64 10] w fun e w' => e = .returned (.string ⟨(Lib.itoa n).toArray⟩) ∧ ∃ k os, w' = grow (w.drewN k) os := Any.strconv_FormatInt_10 Tryd.laysM173 n h0 h1 w htab
def Tryd.laysC174_ren : Go.Shelf.Ren := ⟨fun | 174 => 43 | 247 => 51 | 245 => 52 | 287 => 63 | 279 => 64 | 280 => 65 | 281 => 66 | 282 => 67 | 321 => 80 | 322 => 81 | 316 => 82 | 171 => 84 | 205 => 83 | 243 => 89 | 246 => 47 | 283 => 55 | 284 => 56 | 285 => 57 | 286 => 58 | 129 => 71 | 317 => 70 | 318 => 72 | 319 => 73 | 320 => 74 | 337 => 85 | 338 => 86 | n => n, fun | 9 => 9 | 3 => 3 | 2 => 2 | 75 => 97 | 85 => 98 | 4 => 4 | 167 => 121 | 5 => 5 | 53 => 112 | 175 => 122 | 46 => 124 | 168 => 125 | 37 => 22 | 0 => 0 | 210 => 142 | 21 => 21 | 127 => 110 | 145 => 153 | 143 => 151 | 171 => 111 | 173 => 115 | 212 => 133 | 51 => 134 | 20 => 20 | 213 => 135 | 232 => 154 | 233 => 155 | 80 => 106 | n => n, fun | 15 => 2 | 16 => 3 | 17 => 0 | 18 => 6 | 19 => 7 | n => n⟩
theorem Tryd.laysC174 : Go.Proofs.LaysC.n174 Tryd.prog Tryd.laysC174_ren := {
  mixed := by kernel_rfl
  f129 := Tryd.func71.trans (congrArg some (by kernel_rfl))
  f171 := Tryd.func84.trans (congrArg some (by kernel_rfl))
  f174 := Tryd.func43.trans (congrArg some (by kernel_rfl))
  f205 := Tryd.func83.trans (congrArg some (by kernel_rfl))
  f243 := Tryd.func89.trans (congrArg some (by kernel_rfl))
  f245 := Tryd.func52.trans (congrArg some (by kernel_rfl))
  f246 := Tryd.func47.trans (congrArg some (by kernel_rfl))
  f247 := Tryd.func51.trans (congrArg some (by kernel_rfl))
  f279 := Tryd.func64.trans (congrArg some (by kernel_rfl))
  f280 := Tryd.func65.trans (congrArg some (by kernel_rfl))
  f281 := Tryd.func66.trans (congrArg some (by kernel_rfl))
  f282 := Tryd.func67.trans (congrArg some (by kernel_rfl))
  f283 := Tryd.func55.trans (congrArg some (by kernel_rfl))
  f284 := Tryd.func56.trans (congrArg some (by kernel_rfl))
  f285 := Tryd.func57.trans (congrArg some (by kernel_rfl))
  f286 := Tryd.func58.trans (congrArg some (by kernel_rfl))
  f287 := Tryd.func63.trans (congrArg some (by kernel_rfl))
  f316 := Tryd.func82.trans (congrArg some (by kernel_rfl))
  f317 := Tryd.func70.trans (congrArg some (by kernel_rfl))
  f318 := Tryd.func72.trans (congrArg some (by kernel_rfl))
  f319 := Tryd.func73.trans (congrArg some (by kernel_rfl))
  f320 := Tryd.func74.trans (congrArg some (by kernel_rfl))
  f321 := Tryd.func80.trans (congrArg some (by kernel_rfl))
  f322 := Tryd.func81.trans (congrArg some (by kernel_rfl))
  f337 := Tryd.func85.trans (congrArg some (by kernel_rfl))
  f338 := Tryd.func86.trans (congrArg some (by kernel_rfl))
  t0 := Tryd.underlying0
  a0 := Tryd.isAgg0
  z0 := Tryd.sizeOf0
  v0 := Tryd.zeroValue0
  t2 := Tryd.underlying2
  a2 := Tryd.isAgg2
  z2 := Tryd.sizeOf2
  v2 := Tryd.zeroValue2
  t3 := Tryd.underlying3
  a3 := Tryd.isAgg3
  z3 := Tryd.sizeOf3
  v3 := Tryd.zeroValue3
  t4 := Tryd.underlying4
  a4 := Tryd.isAgg4
  z4 := Tryd.sizeOf4
  v4 := Tryd.zeroValue4
  t5 := Tryd.underlying5
  a5 := Tryd.isAgg5
  z5 := Tryd.sizeOf5
  v5 := Tryd.zeroValue5
  t9 := Tryd.underlying9
  a9 := Tryd.isAgg9
  z9 := Tryd.sizeOf9
  v9 := Tryd.zeroValue9
  t20 := Tryd.underlying20
  a20 := Tryd.isAgg20
  z20 := Tryd.sizeOf20
  v20 := Tryd.zeroValue20
  t21 := Tryd.underlying21
  a21 := Tryd.isAgg21
  z21 := Tryd.sizeOf21
  v21 := Tryd.zeroValue21
  t37 := Tryd.underlying22
  a37 := Tryd.isAgg22
  z37 := Tryd.sizeOf22
  v37 := Tryd.zeroValue22
  t46 := Tryd.underlying124
  a46 := Tryd.isAgg124
  z46 := Tryd.sizeOf124
  v46 := Tryd.zeroValue124
  t51 := Tryd.underlying134
  a51 := Tryd.isAgg134
  z51 := Tryd.sizeOf134
  v51 := Tryd.zeroValue134
  t53 := Tryd.underlying112
  a53 := Tryd.isAgg112
  z53 := Tryd.sizeOf112
  v53 := Tryd.zeroValue112
  t75 := Tryd.underlying97
  a75 := Tryd.isAgg97
  z75 := Tryd.sizeOf97
  v75 := Tryd.zeroValue97
  t85 := Tryd.underlying98
  a85 := Tryd.isAgg98
  z85 := Tryd.sizeOf98
  v85 := Tryd.zeroValue98
  t127 := Tryd.underlying110
  a127 := Tryd.isAgg110
  z127 := Tryd.sizeOf110
  v127 := Tryd.zeroValue110
  t143 := Tryd.underlying151
  a143 := Tryd.isAgg151
  z143 := Tryd.sizeOf151
  v143 := Tryd.zeroValue151
  t145 := Tryd.underlying153
  a145 := Tryd.isAgg153
  z145 := Tryd.sizeOf153
  v145 := Tryd.zeroValue153
  t167 := Tryd.underlying121
  a167 := Tryd.isAgg121
  z167 := Tryd.sizeOf121
  v167 := Tryd.zeroValue121
  t168 := Tryd.underlying125
  a168 := Tryd.isAgg125
  z168 := Tryd.sizeOf125
  v168 := Tryd.zeroValue125
  t171 := Tryd.underlying111
  a171 := Tryd.isAgg111
  z171 := Tryd.sizeOf111
  v171 := Tryd.zeroValue111
  t173 := Tryd.underlying115
  a173 := Tryd.isAgg115
  z173 := Tryd.sizeOf115
  v173 := Tryd.zeroValue115
  t175 := Tryd.underlying122
  a175 := Tryd.isAgg122
  z175 := Tryd.sizeOf122
  v175 := Tryd.zeroValue122
  t210 := Tryd.underlying142
  a210 := Tryd.isAgg142
  z210 := Tryd.sizeOf142
  v210 := Tryd.zeroValue142
  t212 := Tryd.underlying133
  a212 := Tryd.isAgg133
  z212 := Tryd.sizeOf133
  v212 := Tryd.zeroValue133
  t213 := Tryd.underlying135
  a213 := Tryd.isAgg135
  z213 := Tryd.sizeOf135
  t232 := Tryd.underlying154
  a232 := Tryd.isAgg154
  z232 := Tryd.sizeOf154
  v232 := Tryd.zeroValue154
  t233 := Tryd.underlying155
  a233 := Tryd.isAgg155
  z233 := Tryd.sizeOf155
  v233 := Tryd.zeroValue155
  g15 := by kernel_rfl
  g16 := by kernel_rfl
  g17 := by kernel_rfl
  g18 := by kernel_rfl
  g19 := by kernel_rfl
  t80 := Tryd.underlying106
  a80 := Tryd.isAgg106
  z80 := Tryd.sizeOf106
  v80 := Tryd.zeroValue106
  i0 := by kernel_rfl
  i2 := by kernel_rfl
  i3 := by kernel_rfl
  i4 := by kernel_rfl
  i5 := by kernel_rfl
  i9 := by kernel_rfl
  i20 := by kernel_rfl
  i21 := by kernel_rfl
  i37 := by kernel_rfl
  i46 := by kernel_rfl
  i51 := by kernel_rfl
  i53 := by kernel_rfl
  i75 := by kernel_rfl
  i80 := by kernel_rfl
  i85 := by kernel_rfl
  i127 := by kernel_rfl
  i143 := by kernel_rfl
  i145 := by kernel_rfl
  i167 := by kernel_rfl
  i168 := by kernel_rfl
  i171 := by kernel_rfl
  i173 := by kernel_rfl
  i175 := by kernel_rfl
  i210 := by kernel_rfl
  i212 := by kernel_rfl
  i232 := by kernel_rfl
  i233 := by kernel_rfl
  m15 := by kernel_rfl
  m16 := by kernel_rfl
  m17 := by kernel_rfl
  m18 := by kernel_rfl
  m19 := by kernel_rfl
  c0 := by kernel_rfl
  c2 := by kernel_rfl
  c3 := by kernel_rfl
  c4 := by kernel_rfl
  c5 := by kernel_rfl
  c9 := by kernel_rfl
  c20 := by kernel_rfl
  c21 := by kernel_rfl
  c37 := by kernel_rfl
  c46 := by kernel_rfl
  c51 := by kernel_rfl
  c53 := by kernel_rfl
  c75 := by kernel_rfl
  c80 := by kernel_rfl
  c85 := by kernel_rfl
  c127 := by kernel_rfl
  c143 := by kernel_rfl
  c145 := by kernel_rfl
  c167 := by kernel_rfl
  c168 := by kernel_rfl
  c171 := by kernel_rfl
  c173 := by kernel_rfl
  c175 := by kernel_rfl
  c210 := by kernel_rfl
  c212 := by kernel_rfl
  c213 := by kernel_rfl
  c232 := by kernel_rfl
  c233 := by kernel_rfl }
open Go.RowKit in
theorem Tryd.strconv_ParseInt_10_at64_ok (s : ByteArray) (hmax : s.size ≤ 9223372036854775806) (v : Int) (h : Lib.parseIntB 64 s.data.toList = .ok v) (w : World) :
    Calls Tryd.prog 43 #[.string s, .int .i64 10, .int .i64 64] w fun e w' => e = .returned (.tuple #[.int .i64 v, .nilIface]) ∧ (w' = w ∨ ∃ t, w' = Lib.bytesWorld w 5 t) := Any.strconv_ParseInt_10_at64_ok Tryd.laysC174 s hmax v h w
open Go.RowKit in
theorem Tryd.strconv_ParseInt_10_at64_syntax_var (s : ByteArray) (hlim : s.size ≤ 281474976710656) (h : Lib.parseIntB 64 s.data.toList = Lib.NumEnd.syntax) (tp : TypeId) (p : Value) (w : World) (hvar : w.var? Tryd.prog "strconv.ErrSyntax" = some #[.iface tp p]) :
    Calls Tryd.prog 43 #[.string s, .int .i64 10, .int .i64 64] w fun e w' => ∃ N, e = .returned (.tuple #[.int .i64 (0), .iface 125 (.pointer (some ⟨N, 0, none⟩))]) ∧ w.heap.size ≤ N ∧ w'.heap[N]? = some (.cells #[.string ⟨#[80, 97, 114, 115, 101, 73, 110, 116]⟩, .string s, .iface tp p] 142 (0, 0)) ∧ Below w.heap.size w w' := Any.strconv_ParseInt_10_at64_syntax_var Tryd.laysC174 s hlim h tp p w hvar
open Go.RowKit in
theorem Tryd.strconv_ParseInt_10_at64_range_var (s : ByteArray) (hlim : s.size ≤ 281474976710656) (h : Lib.parseIntB 64 s.data.toList = .range) (tp : TypeId) (p : Value) (w : World) (hvar : w.var? Tryd.prog "strconv.ErrRange" = some #[.iface tp p]) :
    Calls Tryd.prog 43 #[.string s, .int .i64 10, .int .i64 64] w fun e w' => ∃ N, e = .returned (.tuple #[.int .i64 (Lib.intSat 64 s.data.toList), .iface 125 (.pointer (some ⟨N, 0, none⟩))]) ∧ w.heap.size ≤ N ∧ w'.heap[N]? = some (.cells #[.string ⟨#[80, 97, 114, 115, 101, 73, 110, 116]⟩, .string s, .iface tp p] 142 (0, 0)) ∧ Below w.heap.size w w' := Any.strconv_ParseInt_10_at64_range_var Tryd.laysC174 s hlim h tp p w hvar
def Tryd.lays147_ren : Go.Shelf.Ren := ⟨fun | 147 => 34 | 221 => 42 | 268 => 48 | 138 => 49 | 143 => 50 | 195 => 59 | 197 => 60 | 218 => 61 | 219 => 62 | 260 => 75 | 217 => 76 | 225 => 77 | 224 => 78 | 267 => 79 | 266 => 87 | 314 => 88 | n => n, fun | 9 => 9 | 3 => 3 | 31 => 88 | 4 => 4 | 0 => 0 | 105 => 118 | 21 => 21 | 5 => 5 | 46 => 124 | 119 => 145 | 139 => 148 | 138 => 147 | 146 => 149 | 51 => 134 | n => n, fun | 1 => 1 | 3 => 4 | 4 => 5 | n => n⟩
theorem Tryd.lays147 : Go.Proofs.Lays.n147 Tryd.prog Tryd.lays147_ren := {
  mixed := by kernel_rfl
  f138 := Tryd.func49.trans (congrArg some (by kernel_rfl))
  f143 := Tryd.func50.trans (congrArg some (by kernel_rfl))
  f147 := Tryd.func34.trans (congrArg some (by kernel_rfl))
  f195 := Tryd.func59.trans (congrArg some (by kernel_rfl))
  f197 := Tryd.func60.trans (congrArg some (by kernel_rfl))
  f217 := Tryd.func76.trans (congrArg some (by kernel_rfl))
  f218 := Tryd.func61.trans (congrArg some (by kernel_rfl))
  f219 := Tryd.func62.trans (congrArg some (by kernel_rfl))
  f221 := Tryd.func42.trans (congrArg some (by kernel_rfl))
  f224 := Tryd.func78.trans (congrArg some (by kernel_rfl))
  f225 := Tryd.func77.trans (congrArg some (by kernel_rfl))
  f260 := Tryd.func75.trans (congrArg some (by kernel_rfl))
  f266 := Tryd.func87.trans (congrArg some (by kernel_rfl))
  f267 := Tryd.func79.trans (congrArg some (by kernel_rfl))
  f268 := Tryd.func48.trans (congrArg some (by kernel_rfl))
  f314 := Tryd.func88.trans (congrArg some (by kernel_rfl))
  t0 := Tryd.underlying0
  a0 := Tryd.isAgg0
  z0 := Tryd.sizeOf0
  v0 := Tryd.zeroValue0
  t3 := Tryd.underlying3
  a3 := Tryd.isAgg3
  z3 := Tryd.sizeOf3
  v3 := Tryd.zeroValue3
  t4 := Tryd.underlying4
  a4 := Tryd.isAgg4
  z4 := Tryd.sizeOf4
  v4 := Tryd.zeroValue4
  t5 := Tryd.underlying5
  a5 := Tryd.isAgg5
  z5 := Tryd.sizeOf5
  v5 := Tryd.zeroValue5
  t9 := Tryd.underlying9
  a9 := Tryd.isAgg9
  z9 := Tryd.sizeOf9
  v9 := Tryd.zeroValue9
  t21 := Tryd.underlying21
  a21 := Tryd.isAgg21
  z21 := Tryd.sizeOf21
  v21 := Tryd.zeroValue21
  t31 := Tryd.underlying88
  a31 := Tryd.isAgg88
  z31 := Tryd.sizeOf88
  v31 := Tryd.zeroValue88
  t46 := Tryd.underlying124
  a46 := Tryd.isAgg124
  z46 := Tryd.sizeOf124
  v46 := Tryd.zeroValue124
  t51 := Tryd.underlying134
  a51 := Tryd.isAgg134
  z51 := Tryd.sizeOf134
  v51 := Tryd.zeroValue134
  t105 := Tryd.underlying118
  a105 := Tryd.isAgg118
  z105 := Tryd.sizeOf118
  v105 := Tryd.zeroValue118
  t119 := Tryd.underlying145
  a119 := Tryd.isAgg145
  z119 := Tryd.sizeOf145
  t138 := Tryd.underlying147
  a138 := Tryd.isAgg147
  z138 := Tryd.sizeOf147
  v138 := Tryd.zeroValue147
  t139 := Tryd.underlying148
  a139 := Tryd.isAgg148
  z139 := Tryd.sizeOf148
  v139 := Tryd.zeroValue148
  t146 := Tryd.underlying149
  a146 := Tryd.isAgg149
  z146 := Tryd.sizeOf149
  v146 := Tryd.zeroValue149
  g1 := by kernel_rfl
  g3 := by kernel_rfl
  g4 := by kernel_rfl }
open Go.RowKit Go.Lib in
theorem Tryd.strings_SplitN (s sep : ByteArray) (n : Nat) (m : Int) (w : World) (hs : s.size < 4294967281) (hm : w.cell? ⟨1, 0, none⟩ = some (.int .i64 m)) (h1 : 1 ≤ sep.size) (hn : 1 ≤ n) (hn63 : n ≤ 9223372036854775807) :
    Calls Tryd.prog 34 #[.string s, .string sep, .int .i64 n] w fun e w' =>
      e = .returned (.slice (some ⟨w.heap.size, 0, none⟩) (Lib.splitB sep 0 (min n (s.size + 1) - 1) s).length (min n (s.size + 1))) ∧ w' = w.alloc (.cells (Lib.cellsOf (Lib.splitB sep 0 (min n (s.size + 1) - 1) s) (min n (s.size + 1))) 9) := Any.strings_SplitN Tryd.lays147 (by kernel_rfl) s sep n m w hs hm h1 hn hn63
end Go.Proofs
namespace Go.Proofs.YtmjkhejfhpgiiaaDoor
open Go.Lib
namespace Spa
def nb (l : List UInt8) : Prop := ∀ c ∈ l, c ≠ 32
theorem pre_ne {b : UInt8} {l : List UInt8} (h : b ≠ 32) : List.isPrefixOf [(32 : UInt8)] (b :: l) = false := by
  simp only [List.isPrefixOf, Bool.and_true]
  exact beq_eq_false_iff_ne.2 fun e => h e.symm
theorem index_nb : ∀ {l : List UInt8}, nb l → index l [32] = -1
  | [], _ => rfl
  | b :: l, h => by
    unfold index
    rw [pre_ne (h b (by simp)), index_nb (l := l) (fun c hc => h c (by simp [hc]))]
    rfl
theorem index_app : ∀ {l : List UInt8} (r : List UInt8), nb l → index (l ++ 32 :: r) [32] = l.length
  | [], r, _ => by simp [index, List.isPrefixOf]
  | b :: l, r, h => by
    show index (b :: (l ++ 32 :: r)) [32] = _
    unfold index
    rw [pre_ne (h b (by simp)), index_app r (fun c hc => h c (by simp [hc]))]
    have : ((l.length : Int) == -1) = false := by rw [beq_eq_false_iff_ne]; omega
    simp [this]
theorem join_two (x y : List UInt8) (r : List (List UInt8)) : join (x :: y :: r) [32] = x ++ 32 :: join (y :: r) [32] := by
  rw [join_cons, join_cons]
  simp [joinTail]
theorem split_join : ∀ (ws : List (List UInt8)) (k : Nat), ws ≠ [] → (∀ x ∈ ws, nb x) → ws.length ≤ k + 1 → splitK [32] 0 k (join ws [32]) = ws
  | [], _, h, _, _ => absurd rfl h
  | [x], k, _, h, _ => by
    rw [join_one]
    cases k with
    | zero => rfl
    | succ k => unfold splitK; rw [index_nb (h x (by simp))]; rfl
  | x :: y :: r, 0, _, _, hl => by simp at hl
  | x :: y :: r, k + 1, _, h, hl => by
    rw [join_two]
    unfold splitK
    rw [index_app _ (h x (by simp)), if_neg (by rw [beq_iff_eq]; omega)]
    have e : ((x.length : Int)).toNat = x.length := by omega
    have e2 : (x ++ 32 :: join (y :: r) [32]).drop (x.length + [(32 : UInt8)].length) = join (y :: r) [32] := by
      rw [← List.drop_drop, List.drop_left]
      rfl
    rw [e, Nat.add_zero, List.take_left, e2, split_join (y :: r) k (by simp) (fun z hz => h z (by simp [hz])) (by simp at hl ⊢; omega)]
def dgt (d : Nat) : UInt8 := UInt8.ofNat (48 + d)
theorem dgt_nat {d : Nat} (h : d < 10) : (dgt d).toNat = 48 + d := by
  unfold dgt
  rw [UInt8.toNat_ofNat']
  omega
theorem dec_small {u : Nat} (h : u < 10) : decDigits u = [dgt u] := by rw [decDigits, dif_pos h]; rfl
theorem dec_big {u : Nat} (h : ¬ u < 10) : decDigits u = decDigits (u / 10) ++ [dgt (u % 10)] := by rw [decDigits, dif_neg h]; rfl
theorem dec_ind {p : Nat → List UInt8 → Prop} (h0 : ∀ u, u < 10 → p u [dgt u]) (h1 : ∀ u l, ¬ u < 10 → p (u / 10) l → p u (l ++ [dgt (u % 10)])) (u : Nat) : p u (decDigits u) := by
  induction u using Nat.strongRecOn with
  | ind u ih =>
    by_cases h : u < 10
    · rw [dec_small h]; exact h0 u h
    · rw [dec_big h]; exact h1 u _ h (ih _ (by omega))
theorem dec_each (u : Nat) : ∀ c ∈ decDigits u, 48 ≤ c.toNat ∧ c.toNat ≤ 57 := by
  refine dec_ind (p := fun _ l => ∀ c ∈ l, 48 ≤ c.toNat ∧ c.toNat ≤ 57) ?_ ?_ u
  · intro u h c hc
    rw [List.mem_singleton.1 hc, dgt_nat h]
    omega
  · intro u l h ih c hc
    rcases List.mem_append.1 hc with hc | hc
    · exact ih c hc
    · rw [List.mem_singleton.1 hc, dgt_nat (by omega)]
      omega
theorem dec_ne (u : Nat) : decDigits u ≠ [] := dec_ind (p := fun _ l => l ≠ []) (fun _ _ => by simp) (fun _ _ _ _ => by simp) u
theorem itoa_dec {n : Int} (h : 0 ≤ n) : itoa n = decDigits n.toNat := by unfold itoa; rw [if_neg (by omega)]
theorem itoa_nb {n : Int} (h : 0 ≤ n) : nb (itoa n) := by
  rw [itoa_dec h]
  intro c hc e
  have := dec_each _ c hc
  rw [e] at this
  exact absurd this.1 (by decide)
theorem parse_snoc : ∀ (l : List UInt8) (acc v d : Nat), parseUint10 acc l = .ok v → d < 10 → v * 10 + d < 18446744073709551616 → parseUint10 acc (l ++ [dgt d]) = .ok (v * 10 + d)
  | [], acc, v, d, h, hd, hv => by
    simp only [parseUint10] at h
    injection h with h
    subst h
    show parseUint10 acc [dgt d] = _
    simp only [parseUint10, dgt_nat hd]
    rw [if_pos (by omega), if_neg (by omega), if_neg (by omega)]
    simp
  | c :: l, acc, v, d, h, hd, hv => by
    show parseUint10 acc (c :: (l ++ [dgt d])) = _
    simp only [parseUint10] at h ⊢
    split at h
    · rename_i h1
      rw [if_pos h1]
      split at h
      · cases h
      · rename_i h2
        rw [if_neg h2]
        split at h
        · cases h
        · rename_i h3
          rw [if_neg h3]
          exact parse_snoc l _ v d h hd hv
    · cases h
theorem parse_dec (u : Nat) : u < 18446744073709551616 → parseUint10 0 (decDigits u) = .ok u := by
  refine dec_ind (p := fun u l => u < 18446744073709551616 → parseUint10 0 l = .ok u) ?_ ?_ u
  · intro u h hu
    have := parse_snoc [] 0 0 u rfl h (by omega)
    simpa using this
  · intro u l h ih hu
    have := parse_snoc l 0 (u / 10) (u % 10) (ih (by omega)) (by omega) (by omega)
    rw [this]
    congr 1
    omega
def numP (l : List UInt8) : Int := match parseIntB 64 l with | .ok v => v | NumEnd.syntax => 0 | .range => intSat 64 l
theorem numP_itoa {n : Int} (h : 0 ≤ n) (h1 : n ≤ 9223372036854775807) : numP (itoa n) = n := by
  have hd := parse_dec n.toNat (by omega)
  have hne := dec_ne n.toNat
  have he := dec_each n.toNat
  rw [itoa_dec h]
  unfold numP
  cases hl : decDigits n.toNat with
  | nil => exact absurd hl hne
  | cons c r =>
    rw [hl] at hd he
    have hc := he c (by simp)
    have hp : parseIntB 64 (c :: r) = .ok n := by
      rw [parseIntB_plain 64 c r (by omega) (by omega), parseUintB_64]
      unfold parseMag
      rw [if_neg (by simp), hd]
      unfold signlessC
      simp only
      rw [if_neg (by have : (2 : Nat) ^ (64 - 1) = 9223372036854775808 := by decide
                     omega)]
      congr 1
      omega
    rw [hp]
theorem numP_in (l : List UInt8) : -9223372036854775808 ≤ numP l ∧ numP l ≤ 9223372036854775807 := by
  unfold numP
  split
  · rename_i v h
    have := parseIntB_bounds h
    have e : ((2 ^ (64 - 1) : Nat) : Int) = 9223372036854775808 := by decide
    rw [e] at this
    omega
  · decide
  · rw [intSat_64]; exact atoiSat_bounds l
end Spa
namespace Spm
open Go.RowKit Mem Wpl Spa
def wOrder : List UInt8 := [111, 114, 100, 101, 114]
def wCancel : List UInt8 := [99, 97, 110, 99, 101, 108]
def wFill : List UInt8 := [102, 105, 108, 108]
def wAck : List UInt8 := [97, 99, 107]
def wKill : List UInt8 := [107, 105, 108, 108]
def wRearm : List UInt8 := [114, 101, 97, 114, 109]
def wLimit : List UInt8 := [108, 105, 109, 105, 116]
def wBuy : List UInt8 := [98, 117, 121]
def wSell : List UInt8 := [115, 101, 108, 108]
def sideL (x : Bool) : List UInt8 := if x then wSell else wBuy
def wordsM (m : M) : List (List UInt8) :=
  if m.k = 0 then [wOrder, itoa m.a, itoa m.s, sideL m.x, itoa m.p, itoa m.q, itoa m.n, itoa m.t]
  else if m.k = 1 then [wCancel, itoa m.i]
  else if m.k = 2 then [wFill, itoa m.i, itoa m.y]
  else if m.k = 3 then [wAck, itoa m.i]
  else if m.k = 4 then [wKill]
  else if m.k = 5 then [wRearm]
  else [wLimit, itoa m.z, itoa m.v]
def lineL (m : M) : List UInt8 := if rightM m = true then join (wordsM m) [32] else []
def at0 (ws : List (List UInt8)) (k : Nat) : List UInt8 := ws.getD k []
def guessW (num : List UInt8 → Int) (ws : List (List UInt8)) (d : M) : M :=
  if at0 ws 0 = wOrder then { m0 with k := 0, a := num (at0 ws 1), s := num (at0 ws 2), x := decide (at0 ws 3 = wSell), p := num (at0 ws 4), q := num (at0 ws 5), n := num (at0 ws 6), t := num (at0 ws 7) }
  else if at0 ws 0 = wCancel then { m0 with k := 1, i := num (at0 ws 1) }
  else if at0 ws 0 = wFill then { m0 with k := 2, i := num (at0 ws 1), y := num (at0 ws 2) }
  else if at0 ws 0 = wAck then { m0 with k := 3, i := num (at0 ws 1) }
  else if at0 ws 0 = wKill then { m0 with k := 4 }
  else if at0 ws 0 = wRearm then { m0 with k := 5 }
  else if at0 ws 0 = wLimit then { m0 with k := 6, z := num (at0 ws 1), v := num (at0 ws 2) }
  else d
def splP (s : List UInt8) : List (List UInt8) := splitK [32] 0 (min 8 (s.length + 1) - 1) s
def guessP (s : List UInt8) : M := guessW numP (splP s) m0
theorem guess_words {num : List UInt8 → Int} (hn : ∀ n : Int, 0 ≤ n → n ≤ 9223372036854775807 → num (itoa n) = n) {m : M} (hw : WfM m) (h : rightM m = true) (d : M) : guessW num (wordsM m) d = m := by
  obtain ⟨hk0, hk6, hal, ha, hs, hz, hi, hp, hq, hnn, ht, hy, hv⟩ := rightM_of h
  obtain ⟨_, _, _, ip, iq, iN, it, _, iy, _, iv⟩ := hw
  unfold inI at ip iq iN it iy iv
  have ea := hn m.a ha.1 (by omega)
  have es := hn m.s hs.1 (by omega)
  have ez := hn m.z hz.1 (by omega)
  have ei := hn m.i hi.1 (by omega)
  have ep := hn m.p hp ip.2
  have eq := hn m.q hq iq.2
  have en := hn m.n hnn iN.2
  have et := hn m.t ht it.2
  have ey := hn m.y hy iy.2
  have ev := hn m.v hv iv.2
  have hx : decide (sideL m.x = wSell) = m.x := by cases m.x <;> rfl
  have hk : m.k = 0 ∨ m.k = 1 ∨ m.k = 2 ∨ m.k = 3 ∨ m.k = 4 ∨ m.k = 5 ∨ m.k = 6 := by omega
  refine Eq.trans ?_ hal.symm
  unfold wordsM alM
  rcases hk with hk | hk | hk | hk | hk | hk | hk
  · rw [if_pos hk, if_pos hk]
    show ({ m0 with k := 0, a := num (itoa m.a), s := num (itoa m.s), x := decide (sideL m.x = wSell), p := num (itoa m.p), q := num (itoa m.q), n := num (itoa m.n), t := num (itoa m.t) } : M) = _
    rw [ea, es, hx, ep, eq, en, et, hk]
  · rw [if_neg (by omega), if_pos hk, if_neg (by omega), if_pos (Or.inl hk)]
    show ({ m0 with k := 1, i := num (itoa m.i) } : M) = _
    rw [ei, hk]
  · rw [if_neg (by omega), if_neg (by omega), if_pos hk, if_neg (by omega), if_neg (by omega), if_pos hk]
    show ({ m0 with k := 2, i := num (itoa m.i), y := num (itoa m.y) } : M) = _
    rw [ei, ey, hk]
  · rw [if_neg (by omega), if_neg (by omega), if_neg (by omega), if_pos hk, if_neg (by omega), if_pos (Or.inr hk)]
    show ({ m0 with k := 3, i := num (itoa m.i) } : M) = _
    rw [ei, hk]
  · rw [if_neg (by omega), if_neg (by omega), if_neg (by omega), if_neg (by omega), if_pos hk, if_neg (by omega), if_neg (by omega), if_neg (by omega), if_neg (by omega)]
    show ({ m0 with k := 4 } : M) = _
    rw [hk]
  · rw [if_neg (by omega), if_neg (by omega), if_neg (by omega), if_neg (by omega), if_neg (by omega), if_pos hk, if_neg (by omega), if_neg (by omega), if_neg (by omega), if_neg (by omega)]
    show ({ m0 with k := 5 } : M) = _
    rw [hk]
  · rw [if_neg (by omega), if_neg (by omega), if_neg (by omega), if_neg (by omega), if_neg (by omega), if_neg (by omega), if_neg (by omega), if_neg (by omega), if_neg (by omega), if_pos hk]
    show ({ m0 with k := 6, z := num (itoa m.z), v := num (itoa m.v) } : M) = _
    rw [ez, ev, hk]
theorem nb_lit (l : List UInt8) (h : (l.all fun c => c != 32) = true) : nb l := fun c hc e => by
  have := List.all_eq_true.1 h c hc
  rw [e] at this
  exact absurd this (by decide)
theorem words_ok {m : M} (h : rightM m = true) : wordsM m ≠ [] ∧ (∀ x ∈ wordsM m, nb x) ∧ (wordsM m).length ≤ 8 := by
  obtain ⟨hk0, hk6, hal, ha, hs, hz, hi, hp, hq, hnn, ht, hy, hv⟩ := rightM_of h
  have hx : nb (sideL m.x) := by cases m.x <;> exact nb_lit _ (by decide)
  have ia := itoa_nb ha.1
  have is := itoa_nb hs.1
  have iz := itoa_nb hz.1
  have ii := itoa_nb hi.1
  have ip := itoa_nb hp
  have iq := itoa_nb hq
  have iN := itoa_nb hnn
  have it := itoa_nb ht
  have iy := itoa_nb hy
  have iv := itoa_nb hv
  have w1 : nb wOrder := nb_lit _ (by decide)
  have w2 : nb wCancel := nb_lit _ (by decide)
  have w3 : nb wFill := nb_lit _ (by decide)
  have w4 : nb wAck := nb_lit _ (by decide)
  have w5 : nb wKill := nb_lit _ (by decide)
  have w6 : nb wRearm := nb_lit _ (by decide)
  have w7 : nb wLimit := nb_lit _ (by decide)
  unfold wordsM
  repeat' split
  all_goals
    refine ⟨by simp, ?_, by simp⟩
    intro x hx
    simp only [List.mem_cons, List.mem_nil_iff, or_false] at hx
    first
      | (rcases hx with rfl | rfl | rfl | rfl | rfl | rfl | rfl | rfl <;> assumption)
      | (rcases hx with rfl | rfl | rfl <;> assumption)
      | (rcases hx with rfl | rfl <;> assumption)
      | (subst hx; assumption)
theorem join_ge : ∀ (ws : List (List UInt8)), ws.length ≤ (join ws [32]).length + 1
  | [] => by simp
  | x :: r => by rw [join_length]; simp
theorem guessP_line {m : M} (hw : WfM m) (h : rightM m = true) : guessP (lineL m) = m := by
  obtain ⟨h0, h1, h2⟩ := words_ok h
  have h3 := join_ge (wordsM m)
  unfold guessP splP lineL
  rw [if_pos h, split_join _ _ h0 h1 (by omega)]
  exact guess_words (fun n => numP_itoa) hw h m0
theorem guess_wf {num : List UInt8 → Int} (hn : ∀ l, inI (num l)) (ws : List (List UInt8)) {d : M} (hd : WfM d) : WfM (guessW num ws d) := by
  have h0 : inI 0 := by unfold inI; omega
  have h1 : inI 1 := by unfold inI; omega
  have h2 : inI 2 := by unfold inI; omega
  have h3 : inI 3 := by unfold inI; omega
  have h4 : inI 4 := by unfold inI; omega
  have h5 : inI 5 := by unfold inI; omega
  have h6 : inI 6 := by unfold inI; omega
  unfold guessW
  repeat' split
  all_goals first | exact hd | (unfold WfM m0; refine ⟨?_, ?_, ?_, ?_, ?_, ?_, ?_, ?_, ?_, ?_, ?_⟩ <;> first | assumption | exact hn _)
theorem m0_wf : WfM m0 := by
  have h0 : inI 0 := by unfold inI; omega
  exact ⟨h0, h0, h0, h0, h0, h0, h0, h0, h0, h0, h0⟩
theorem guessP_wf (s : List UInt8) : WfM (guessP s) := guess_wf (fun l => numP_in l) _ m0_wf
def parseP (s : List UInt8) : M × Bool := if lineL (guessP s) = s then (guessP s, true) else (m0, false)
theorem line_wrong {m : M} (h : ¬ rightM m = true) : lineL m = [] := by unfold lineL; rw [if_neg h]
theorem parseP_line {m : M} (hw : WfM m) (h : rightM m = true) : parseP (lineL m) = (m, true) := by
  unfold parseP
  rw [guessP_line hw h, if_pos rfl]
theorem itoa_len {n : Int} (h : inI n) : (itoa n).length ≤ 21 := itoa_length_le n h.1 h.2
theorem line_len {m : M} (hw : WfM m) : (lineL m).length ≤ 200 := by
  obtain ⟨_, ia, is, ip, iq, iN, it, ii, iy, iz, iv⟩ := hw
  have ia := itoa_len ia
  have is := itoa_len is
  have ip := itoa_len ip
  have iq := itoa_len iq
  have iN := itoa_len iN
  have it := itoa_len it
  have ii := itoa_len ii
  have iy := itoa_len iy
  have iz := itoa_len iz
  have iv := itoa_len iv
  have hx : (sideL m.x).length ≤ 4 := by cases m.x <;> decide
  unfold lineL wordsM
  split
  · repeat' split
    all_goals
      rw [join_length]
      simp only [lens, List.map_cons, List.map_nil, List.sum_cons, List.sum_nil, List.length_cons, List.length_nil, wOrder, wCancel, wFill, wAck, wKill, wRearm, wLimit]
      omega
  · simp
end Spm
namespace Shw
open Kap Go.ChangeShapes Go.WideShapes Go.ChangeAt Go.RowKit Mem Wpl Spa Spm
structure Lw (w : World) : Prop where
  m : ∃ m : Int, w.cell? ⟨1, 0, none⟩ = some (.int .i64 m)
  s : ∃ tp p, w.var? Tryd.prog "strconv.ErrSyntax" = some #[.iface tp p]
  r : ∃ tp p, w.var? Tryd.prog "strconv.ErrRange" = some #[.iface tp p]
  t : Lib.TabIs Tryd.prog w "internal/strconv.uint64pow10" .u64 Lib.pow10Tab
theorem gs : Tryd.prog.globalNamed "strconv.ErrSyntax" = some 2 := by kernel_rfl
theorem gr : Tryd.prog.globalNamed "strconv.ErrRange" = some 3 := by kernel_rfl
theorem gt : Tryd.prog.globalNamed "internal/strconv.uint64pow10" = some 0 := by kernel_rfl
theorem var_b {w w' : World} (hb : Below w.heap.size w w') {n : String} {g : Nat} {cs : Array Value} {v : Value} (hg : Tryd.prog.globalNamed n = some g) (h : w.var? Tryd.prog n = some cs) (hv : cs[0]? = some v) : w'.var? Tryd.prog n = some cs :=
  var?_below hb hg (World.block_lt_of_cell? w ⟨g, 0, none⟩ ((World.var?_cell hg h 0).trans hv)) h
theorem Lw.below {w w' : World} (h : Lw w) (hb : Below w.heap.size w w') : Lw w' := by
  obtain ⟨⟨m, hm⟩, ⟨t1, p1, h1⟩, ⟨t2, p2, h2⟩, h3⟩ := h
  exact ⟨⟨m, (hb.cell (World.block_lt_of_cell? w _ hm)).trans hm⟩, ⟨t1, p1, var_b hb gs h1 rfl⟩, ⟨t2, p2, var_b hb gr h2 rfl⟩, var_b hb gt h3 rfl⟩
theorem lwb {w w' : World} (h : Hid (Lw w)) (hb : Below w.heap.size w w') : Hid (Lw w') := Lw.below h hb
abbrev sv (l : List UInt8) : Value := .string ⟨l.toArray⟩
def MadeS (l : List UInt8) (w : World) (e : Ending) (w' : World) : Prop := e = .returned (sv l) ∧ Below w.heap.size w w'
theorem digI_any (n : Int) (hn : inI n) (w : World) (hL : Hid (Lw w)) : Calls Tryd.prog 26 #[.int .i64 n] w (MadeS (itoa n) w) := by
  obtain ⟨h0, h1⟩ := hn
  have ht := κ hL.out.t
  clear hL
  go_enter Tryd.func26, Tryd.ntmps26
  go_wp2_with fail
  refine (Tryd.strconv_FormatInt_10 n h0 h1 _ ht.out).mono ?_
  rintro e w1 ⟨rfl, k, os, rfl⟩
  go_wp2_with fail
  go_ret
  exact ⟨rfl, Lib.below_grow _ _ (Nat.le_refl _) _ _⟩
theorem digL_any (n : Int) (hn : inI n) (w : World) (hL : Hid (Lw w)) : Calls Tryd.prog 28 #[.int .i64 n] w (MadeS (itoa n) w) := by
  obtain ⟨h0, h1⟩ := hn
  have ht := κ hL.out.t
  clear hL
  go_enter Tryd.func28, Tryd.ntmps28
  go_wp2_with fail
  refine (Tryd.strconv_FormatInt_10 n h0 h1 _ ht.out).mono ?_
  rintro e w1 ⟨rfl, k, os, rfl⟩
  go_wp2_with fail
  go_ret
  exact ⟨rfl, Lib.below_grow _ _ (Nat.le_refl _) _ _⟩
theorem side_any (x : Bool) (w : World) : Calls Tryd.prog 27 #[.bool x] w (fun e w' => e = .returned (sv (sideL x)) ∧ w = w') := by
  cases x
  all_goals
    go_enter Tryd.func27, Tryd.ntmps27
    go_wp2_with fail
    go_ret
    exact ⟨rfl, rfl⟩
def stx (l : List (List UInt8)) : List Value := l.map sv
theorem stx_len (l : List (List UInt8)) : (stx l).length = l.length := by simp [stx]
def Txs (w : World) (B : Nat) (A : Option Addr) (l : List (List UInt8)) : Prop := Rd w B A (stx l)
theorem Txs.at {w : World} {B : Nat} {A : Option Addr} {l : List (List UInt8)} (h : Txs w B A l) {i : Nat} (hi : i < l.length) :
    ∃ b o, A = some ⟨b, o, none⟩ ∧ b < B ∧ ∀ j, j < l.length → w.cell? ⟨b, o + j, none⟩ = some (sv (at0 l j)) := by
  obtain ⟨b, o, hA, hb, hc⟩ := Rd.at h (by intro e; have := stx_len l; rw [e] at this; simp at this; omega)
  exact ⟨b, o, hA, hb, fun j hj => hc j _ (by unfold stx at0; rw [List.getElem?_map, List.getElem?_eq_getElem hj, List.getD_eq_getElem?_getD, List.getElem?_eq_getElem hj]; rfl)⟩
theorem line_any (b n : Nat) (ws : List (List UInt8)) (w : World) (h : Hid (Txs w w.heap.size (some ⟨b, 0, none⟩) ws)) (hn : Hid (ws.length = n)) (h0 : 0 < n) (hl : Hid ((join ws [32]).length ≤ 200)) :
    Calls Tryd.prog 25 #[.slice (some ⟨b, 0, none⟩) n n, ] w (MadeS (join ws [32]) w) := by
  have hm : (ws.map fun l => (⟨l.toArray⟩ : ByteArray)).map (·.data.toList) = ws := by rw [List.map_map]; exact (List.map_congr_left fun x _ => rfl).trans (List.map_id _)
  have hlen : (ws.map fun l => (⟨l.toArray⟩ : ByteArray)).length = n := by rw [List.length_map]; exact hn.out
  obtain ⟨b', o', hA, hb, hc⟩ := h.out.at (i := 0) (by have := hn.out; omega)
  injection hA with hA
  injection hA with e1 e2
  subst e1 e2
  have c := Tryd.strings_Join b 0 n (ws.map fun l => (⟨l.toArray⟩ : ByteArray)) ⟨#[32]⟩ w (by
    intro j x hx
    have hj : j < ws.length := by
      have := (List.getElem?_eq_some_iff.1 hx).1
      simpa using this
    rw [hc j hj]
    rw [List.getElem?_map, List.getElem?_eq_getElem hj] at hx
    injection hx with hx
    rw [← hx]
    unfold at0
    rw [List.getD_eq_getElem?_getD, List.getElem?_eq_getElem hj]
    rfl) hb (by rw [hlen]; have := hl.out; have := join_ge ws; have := hn.out; omega) (by rw [hlen]; exact Nat.le_refl _) (by rw [hm]; have := hl.out; show (join ws [32]).length ≤ _; omega)
  rw [hm, hlen] at c
  have C := κ c
  clear c hc hlen hm hn hl h
  go_enter Tryd.func25, Tryd.ntmps25
  go_wp2_with fail
  refine C.out.mono ?_
  rintro e w1 ⟨rfl, hb1⟩
  have B1 := κ hb1
  clear hb1
  go_wp2_with fail
  go_ret
  exact ⟨rfl, B1.out⟩
theorem word_any (A : Option Addr) (c : Nat) (ws : List (List UInt8)) (k : Nat) (w : World) (h : Hid (Txs w w.heap.size A ws)) (hk : (k : Int) ≤ 10) (hw : (ws.length : Int) ≤ 1000) :
    Calls Tryd.prog 35 #[.slice A ws.length c, .int .i64 k] w (fun e w' => e = .returned (sv (at0 ws k)) ∧ w = w') := by
  by_cases hlt : ws.length ≤ k
  · have h1 : decide (ws.length ≤ k) = true := decide_eq_true hlt
    have e : at0 ws k = [] := by unfold at0; rw [List.getD_eq_getElem?_getD, List.getElem?_eq_none hlt]; rfl
    rw [e]
    clear e
    go_enter Tryd.func35, Tryd.ntmps35
    go_wp2_with fail
    go_ret
    exact ⟨rfl, rfl⟩
  · obtain ⟨b, o, rfl, hb, hc⟩ := h.out.at (i := k) (by omega)
    have hck := hc k (by omega)
    have h1 : decide (ws.length ≤ k) = false := decide_eq_false hlt
    have hlt : k < ws.length := by omega
    clear hc h
    generalize at0 ws k = x at hck ⊢
    generalize ws.length = n at *
    go_enter Tryd.func35, Tryd.ntmps35
    go_wp2_with fail
    go_ret
    exact ⟨rfl, rfl⟩
def MadeN (x : Int) (w : World) (e : Ending) (w' : World) : Prop := e = .returned (.int .i64 x) ∧ Below w.heap.size w w'
def MadeP (x : Int) (w : World) (e : Ending) (w' : World) : Prop := ∃ v, e = .returned (.tuple #[.int .i64 x, v]) ∧ Below w.heap.size w w'
theorem parse_any (l : List UInt8) (w : World) (hL : Hid (Lw w)) (hl : l.length ≤ 400) : Calls Tryd.prog 43 #[sv l, .int .i64 10, .int .i64 64] w (MadeP (numP l) w) := by
  have hs : (⟨l.toArray⟩ : ByteArray).size = l.length := rfl
  obtain ⟨_, ⟨t1, p1, h1⟩, ⟨t2, p2, h2⟩, _⟩ := hL.out
  unfold numP
  rcases hp : parseIntB 64 l with v | _ | _
  · refine (Tryd.strconv_ParseInt_10_at64_ok ⟨l.toArray⟩ (by omega) v hp w).mono ?_
    rintro e w' ⟨he, hw⟩
    refine ⟨_, he, ?_⟩
    rcases hw with rfl | ⟨t, rfl⟩
    · exact Below.refl _ _
    · exact Lib.bytesWorld_below _ _ _
  · refine (Tryd.strconv_ParseInt_10_at64_syntax_var ⟨l.toArray⟩ (by omega) hp t1 p1 w h1).mono ?_
    rintro e w' ⟨N, he, _, _, hb⟩
    exact ⟨_, he, hb⟩
  · refine (Tryd.strconv_ParseInt_10_at64_range_var ⟨l.toArray⟩ (by omega) hp t2 p2 w h2).mono ?_
    rintro e w' ⟨N, he, _, _, hb⟩
    exact ⟨_, he, hb⟩
theorem number_any (A : Option Addr) (c : Nat) (ws : List (List UInt8)) (k : Nat) (w : World) (hL : Hid (Lw w)) (h : Hid (Txs w w.heap.size A ws)) (hk : (k : Int) ≤ 10) (hw : (ws.length : Int) ≤ 1000) (hx : Hid ((at0 ws k).length ≤ 400)) :
    Calls Tryd.prog 36 #[.slice A ws.length c, .int .i64 k] w (MadeN (numP (at0 ws k)) w) := by
  go_enter Tryd.func36, Tryd.ntmps36
  go_wp2_with fail
  refine (word_any A c ws k w h hk hw).mono ?_
  rintro e w1 ⟨rfl, rfl⟩
  go_wp2_with fail
  refine (parse_any (at0 ws k) w hL hx.out).mono ?_
  rintro e w1 ⟨v, rfl, hb1⟩
  have B1 := κ hb1
  clear hb1 h hL hx
  go_wp2_with fail
  go_ret
  exact ⟨rfl, B1.out⟩
end Shw
end Go.Proofs.YtmjkhejfhpgiiaaDoor

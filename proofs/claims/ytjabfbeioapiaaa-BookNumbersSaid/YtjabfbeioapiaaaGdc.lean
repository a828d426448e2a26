/- What the reference's Fix of a Config makes, as one word. Condition: the Config lies in memory, its numbers are of 64 bits. -/
import Derived.Test.YtjabfbeioapiaaaTl5
namespace Go.Proofs.Ytjabfbeioapiaaa.Gdc
set_option maxRecDepth 100000
open Go.RowKit Mem Tre Ref3 Law3 Fix3 Bnd Flo Cfg CrdB CrdC St7 Fcf Fown Rul7 Tl5
set_option linter.unusedVariables false
structure GoodC (sh wi ra ta : Int) (nd : List (Int × Int)) (ac : List Int) (sy : List (Int × Int × Int × Nat)) : Prop where
  cfg : cfgF sh wi ra ta nd ac sy = 0
  wn : WfN nd
  wa : WfI ac
  ws : WfS sy
  n1 : 1 ≤ nd.length
  n2 : nd.length ≤ 10
  a1 : 1 ≤ ac.length
  a2 : ac.length ≤ 5
  s1 : 1 ≤ sy.length
  s2 : sy.length ≤ 3
  h1 : 1 ≤ sh
  h2 : sh ≤ 3
  w1 : 0 ≤ wi
  w2 : wi ≤ 3
  r1 : 1 ≤ ra
  r2 : ra ≤ 6
  t1 : 1 ≤ ta
  t2 : ta ≤ 8
theorem good_fix (sh wi ra ta : Int) (nd : List (Int × Int)) (ac : List Int) (sy : List (Int × Int × Int × Nat)) (hw : WfS sy) :
    GoodC (1 + modF sh 3) (modF wi 4) (1 + modF ra 6) (1 + modF ta 8) (fixF nd) (fixA (fixF nd).length ac) (fixS sy) := by
  have hn := fixF_len nd
  have ha := fixA_len (n := (fixF nd).length) (ac := ac)
  have hs := fixS_len (sy := sy)
  have h1 := modF_bd (x := sh) (m := 3) (by decide) (by decide)
  have h2 := modF_bd (x := wi) (m := 4) (by decide) (by decide)
  have h3 := modF_bd (x := ra) (m := 6) (by decide) (by decide)
  have h4 := modF_bd (x := ta) (m := 8) (by decide) (by decide)
  exact ⟨cfg_fix sh wi ra ta nd ac sy, wfn_fix nd, wfi_fix hn.1 (by omega), wfs_fix hw, hn.1, hn.2, ha.1, ha.2, hs.1, hs.2, by omega, by omega, by omega, by omega, by omega, by omega, by omega, by omega⟩
def MadeGood (w : World) (e : Ending) (w' : World) : Prop := ∃ sh wi ra ta nd ac sy, GoodC sh wi ra ta nd ac sy ∧ MadeCf sh wi ra ta nd ac sy w e w'
theorem fixc_any (sh wi ra ta : Int) (A B C : Option Addr) (c d f : Nat) (nd : List (Int × Int)) (ac : List Int) (sy : List (Int × Int × Int × Nat)) (w : World)
    (hl : Hid (Nds w w.heap.size A nd)) (hu : Hid (Ris w w.heap.size B ac)) (hs : Hid (Smb w w.heap.size C sy)) (hw : Hid (WfN nd)) (hwa : Hid (WfI ac)) (hws : Hid (WfS sy)) (hmax : (nd.length : Int) ≤ 4611686018427387904) (hmay : (ac.length : Int) ≤ 4611686018427387904) (hmaz : (sy.length : Int) ≤ 4611686018427387904) :
    Calls Try.prog 5 #[.agg #[.int .i64 sh, .int .i64 wi, .int .i64 ra, .int .i64 ta, .slice A nd.length c, .slice B ac.length d, .slice C sy.length f]] w (MadeGood w) :=
  (fix5_any sh wi ra ta A B C c d f nd ac sy w hl hu hs hw hwa hws hmax hmay hmaz).mono fun e w' h => ⟨_, _, _, _, _, _, _, good_fix sh wi ra ta nd ac sy hws.out, h⟩
end Go.Proofs.Ytjabfbeioapiaaa.Gdc

/- Plain facts on a Config that may be, out of any, as the reference's Fix makes it: Check has nothing against it. No program, no condition. -/
import Derived.Test.YtjabfbeioapiaaaCfg
import Derived.Test.YtjabfbeioapiaaaCpl
namespace Go.Proofs.Ytjabfbeioapiaaa.Fcf
set_option maxRecDepth 100000
open Go.RowKit Mem Tre Ref3 Law3 Fix3 Bnd Flo Cfg Crd CrdB CrdC Cpl

/-- so much of a number, as an unsigned one -/
def modF (x m : Int) : Int := wrap64 ((IntKind.u64.wrap x).tmod m)
theorem modF_bd {x m : Int} (h : 0 < m) (h' : m ≤ 4611686018427387904) : 0 ≤ modF x m ∧ modF x m < m := by
  unfold modF
  rw [wrap_u64, Int.tmod_eq_emod_of_nonneg (Int.emod_nonneg _ (by decide))]
  have a := Int.emod_nonneg (x % 18446744073709551616) (b := m) (by omega)
  have b := Int.emod_lt_of_pos (x % 18446744073709551616) (b := m) h
  generalize x % 18446744073709551616 % m = r at *
  unfold wrap64
  omega
theorem getD_map {α β : Type} {l : List α} {f : α → β} {i : Nat} {d : β} (h : i < l.length) : (l.map f).getD i d = f l[i] := by simp [h]
def fixA (n : Nat) (ac : List Int) : List Int := if ac.length = 0 then [(n : Int) - 1] else (ac.take 5).map fun a => modF a n
def oneS (p : Int × Int × Int × Nat) : Int × Int × Int × Nat :=
  (1 + modF p.1 1099511627776, 1 + modF p.2.1 1099511627776, if p.2.2.1 < 0 then 9223372036854775807 else p.2.2.1, if rightB p.2.2.2 = true then p.2.2.2 else 4602678819172646912)
def fixS (sy : List (Int × Int × Int × Nat)) : List (Int × Int × Int × Nat) := if sy.length = 0 then [(10, 100, 1000, 4602678819172646912)] else (sy.take 3).map oneS
theorem fixA_len {n : Nat} {ac : List Int} : 1 ≤ (fixA n ac).length ∧ (fixA n ac).length ≤ 5 := by
  unfold fixA
  split
  · simp
  · rw [List.length_map, List.length_take]; omega
theorem fixS_len {sy : List (Int × Int × Int × Nat)} : 1 ≤ (fixS sy).length ∧ (fixS sy).length ≤ 3 := by
  unfold fixS
  split
  · simp
  · rw [List.length_map, List.length_take]; omega
theorem fixA_in {n : Nat} {ac : List Int} (h : 1 ≤ n) (h' : n ≤ 1000) : accB n (fixA n ac) = true := by
  refine accB_t fun i hi => ?_
  unfold fixA at hi ⊢
  split at hi
  · rename_i h0
    rw [if_pos h0]
    have : i = 0 := by simp at hi; omega
    subst this
    exact inR_t (show 0 ≤ (n : Int) - 1 by omega) (show (n : Int) - 1 < n by omega)
  · rename_i h0
    rw [if_neg h0]
    have hl : i < (ac.take 5).length := by simpa using hi
    have e : gI ((ac.take 5).map fun a => modF a n) i = modF ((ac.take 5)[i]) n := getD_map hl
    rw [e]
    have := modF_bd (x := (ac.take 5)[i]) (m := (n : Int)) (by omega) (by omega)
    exact inR_t this.1 this.2
theorem half_right : rightB 4602678819172646912 = true := by decide +kernel
theorem one_ok (p : Int × Int × Int × Nat) : symB (oneS p).1 (oneS p).2.1 (oneS p).2.2.1 (oneS p).2.2.2 = true := by
  have h1 := modF_bd (x := p.1) (m := 1099511627776) (by decide) (by decide)
  have h2 := modF_bd (x := p.2.1) (m := 1099511627776) (by decide) (by decide)
  unfold symB btwB oneS
  simp only [Bool.and_eq_true, decide_eq_true_eq]
  refine ⟨⟨⟨⟨by omega, by omega⟩, ⟨by omega, by omega⟩⟩, ?_⟩, ?_⟩
  · split <;> omega
  · split
    · assumption
    · exact half_right
theorem fixS_ok {sy : List (Int × Int × Int × Nat)} : tabB (fixS sy) = true := by
  refine tabB_t fun i hi => ?_
  unfold fixS at hi ⊢
  split at hi
  · rename_i h0
    rw [if_pos h0]
    have : i = 0 := by simp at hi; omega
    subst this
    show symB 10 100 1000 4602678819172646912 = true
    unfold symB btwB
    rw [half_right]
    decide
  · rename_i h0
    rw [if_neg h0]
    have hl : i < (sy.take 3).length := by simpa using hi
    have e : ((sy.take 3).map oneS).getD i (0, 0, 0, 0) = oneS ((sy.take 3)[i]) := getD_map hl
    unfold sP sQ sW sB
    rw [e]
    exact one_ok _
theorem siz_fix (sh wi ra ta : Int) : sizB (1 + modF sh 3) (modF wi 4) (1 + modF ra 6) (1 + modF ta 8) = true := by
  have h1 := modF_bd (x := sh) (m := 3) (by decide) (by decide)
  have h2 := modF_bd (x := wi) (m := 4) (by decide) (by decide)
  have h3 := modF_bd (x := ra) (m := 6) (by decide) (by decide)
  have h4 := modF_bd (x := ta) (m := 8) (by decide) (by decide)
  unfold sizB btwB
  simp only [Bool.and_eq_true, decide_eq_true_eq]
  omega
/-- Check has nothing against it -/
theorem cfg_fix (sh wi ra ta : Int) (nd : List (Int × Int)) (ac : List Int) (sy : List (Int × Int × Int × Nat)) :
    cfgF (1 + modF sh 3) (modF wi 4) (1 + modF ra 6) (1 + modF ta 8) (fixF nd) (fixA (fixF nd).length ac) (fixS sy) = 0 := by
  have hn := fixF_len nd
  have ha := fixA_len (n := (fixF nd).length) (ac := ac)
  have hs := fixS_len (sy := sy)
  exact cfgF_7 (siz_fix sh wi ra ta) (by rw [okt_chk (okt_fixF nd) hn.1 (by omega)]) (by omega) (fixA_in hn.1 (by omega)) (by omega) fixS_ok
end Go.Proofs.Ytjabfbeioapiaaa.Fcf

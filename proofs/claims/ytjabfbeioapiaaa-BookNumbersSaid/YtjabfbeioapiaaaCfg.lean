/- Words for lists of symbols in memory, over any program; what is wrong with a Config, as a plain function. No condition. -/
import Derived.Test.YtjabfbeioapiaaaRfx
import Derived.Test.YtjabfbeioapiaaaBnd
import Derived.Test.YtjabfbeioapiaaaOpn
import Derived.Test.YtjabfbeioapiaaaFix
namespace Go.Proofs.Ytjabfbeioapiaaa.Cfg
set_option maxRecDepth 100000
open Go.ChangeShapes Go.WideShapes Go.RowKit Mem Tre Ref3 Law3 Fix3 Opn Bnd Flo
set_option linter.unusedVariables false

theorem run_store_float {P : Program} {w : World} {a : Addr} {m : Mode} (k : FloatKind) (n : Nat) : (store a (.float k n) m).run P w = stored P w a (.float k n) m := run_store P w a _ m rfl
/-! ### symbols -/
def sP (l : List (Int × Int × Int × Nat)) (i : Nat) : Int := (l.getD i (0, 0, 0, 0)).1
def sQ (l : List (Int × Int × Int × Nat)) (i : Nat) : Int := (l.getD i (0, 0, 0, 0)).2.1
def sW (l : List (Int × Int × Int × Nat)) (i : Nat) : Int := (l.getD i (0, 0, 0, 0)).2.2.1
def sB (l : List (Int × Int × Int × Nat)) (i : Nat) : Nat := (l.getD i (0, 0, 0, 0)).2.2.2
def syV (p : Int × Int × Int × Nat) : List Value := [.int .i64 p.1, .int .i64 p.2.1, .int .i64 p.2.2.1, .float .f64 p.2.2.2]
def btV (p : Int × Int × Int × Nat) : List Value := [.int .i64 p.1, .int .i64 p.2.1, .int .i64 p.2.2.1, .int .u64 (p.2.2.2 : Int)]
def smbs (l : List (Int × Int × Int × Nat)) : List Value := l.flatMap syV
def btbs (l : List (Int × Int × Int × Nat)) : List Value := l.flatMap btV
theorem smbs_len (l : List (Int × Int × Int × Nat)) : (smbs l).length = l.length * 4 := by
  induction l with
  | nil => rfl
  | cons p l ih => simp [smbs, syV] at ih ⊢; omega
theorem btbs_len (l : List (Int × Int × Int × Nat)) : (btbs l).length = l.length * 4 := by
  induction l with
  | nil => rfl
  | cons p l ih => simp [btbs, btV] at ih ⊢; omega
theorem smbs_get (l : List (Int × Int × Int × Nat)) (i : Nat) (hi : i < l.length) :
    (smbs l)[i * 4]? = some (.int .i64 (sP l i)) ∧ (smbs l)[i * 4 + 1]? = some (.int .i64 (sQ l i)) ∧ (smbs l)[i * 4 + 2]? = some (.int .i64 (sW l i)) ∧ (smbs l)[i * 4 + 3]? = some (.float .f64 (sB l i)) := by
  induction l generalizing i with
  | nil => simp at hi
  | cons p l ih =>
    cases i with
    | zero => simp [smbs, syV, sP, sQ, sW, sB]
    | succ i =>
      have := ih i (by simpa using hi)
      rw [show (i + 1) * 4 = i * 4 + 4 by omega, show i * 4 + 4 + 1 = (i * 4 + 1) + 4 by omega, show i * 4 + 4 + 2 = (i * 4 + 2) + 4 by omega, show i * 4 + 4 + 3 = (i * 4 + 3) + 4 by omega]
      simpa [smbs, syV, sP, sQ, sW, sB] using this
theorem btbs_get (l : List (Int × Int × Int × Nat)) (i : Nat) (hi : i < l.length) :
    (btbs l)[i * 4]? = some (.int .i64 (sP l i)) ∧ (btbs l)[i * 4 + 1]? = some (.int .i64 (sQ l i)) ∧ (btbs l)[i * 4 + 2]? = some (.int .i64 (sW l i)) ∧ (btbs l)[i * 4 + 3]? = some (.int .u64 (sB l i : Int)) := by
  induction l generalizing i with
  | nil => simp at hi
  | cons p l ih =>
    cases i with
    | zero => simp [btbs, btV, sP, sQ, sW, sB]
    | succ i =>
      have := ih i (by simpa using hi)
      rw [show (i + 1) * 4 = i * 4 + 4 by omega, show i * 4 + 4 + 1 = (i * 4 + 1) + 4 by omega, show i * 4 + 4 + 2 = (i * 4 + 2) + 4 by omega, show i * 4 + 4 + 3 = (i * 4 + 3) + 4 by omega]
      simpa [btbs, btV, sP, sQ, sW, sB] using this
def Smb (w : World) (B : Nat) (A : Option Addr) (l : List (Int × Int × Int × Nat)) : Prop := Rd w B A (smbs l)
def Btb (w : World) (B : Nat) (A : Option Addr) (l : List (Int × Int × Int × Nat)) : Prop := Rd w B A (btbs l)
theorem Smb.at {w : World} {B : Nat} {A : Option Addr} {l : List (Int × Int × Int × Nat)} (h : Smb w B A l) {i : Nat} (hi : i < l.length) :
    ∃ b o, A = some ⟨b, o, none⟩ ∧ b < B ∧ ∀ j, j < l.length → w.cell? ⟨b, o + j * 4, none⟩ = some (.int .i64 (sP l j)) ∧ w.cell? ⟨b, o + j * 4 + 1, none⟩ = some (.int .i64 (sQ l j)) ∧ w.cell? ⟨b, o + j * 4 + 2, none⟩ = some (.int .i64 (sW l j)) ∧ w.cell? ⟨b, o + j * 4 + 3, none⟩ = some (.float .f64 (sB l j)) := by
  obtain ⟨b, o, hA, hb, hc⟩ := Rd.at h (by intro e; have := smbs_len l; rw [e] at this; simp at this; omega)
  refine ⟨b, o, hA, hb, fun j hj => ?_⟩
  obtain ⟨g0, g1, g2, g3⟩ := smbs_get l j hj
  exact ⟨hc _ _ g0, by rw [Nat.add_assoc]; exact hc _ _ g1, by rw [Nat.add_assoc]; exact hc _ _ g2, by rw [Nat.add_assoc]; exact hc _ _ g3⟩
theorem Btb.at {w : World} {B : Nat} {A : Option Addr} {l : List (Int × Int × Int × Nat)} (h : Btb w B A l) {i : Nat} (hi : i < l.length) :
    ∃ b o, A = some ⟨b, o, none⟩ ∧ b < B ∧ ∀ j, j < l.length → w.cell? ⟨b, o + j * 4, none⟩ = some (.int .i64 (sP l j)) ∧ w.cell? ⟨b, o + j * 4 + 1, none⟩ = some (.int .i64 (sQ l j)) ∧ w.cell? ⟨b, o + j * 4 + 2, none⟩ = some (.int .i64 (sW l j)) ∧ w.cell? ⟨b, o + j * 4 + 3, none⟩ = some (.int .u64 (sB l j : Int)) := by
  obtain ⟨b, o, hA, hb, hc⟩ := Rd.at h (by intro e; have := btbs_len l; rw [e] at this; simp at this; omega)
  refine ⟨b, o, hA, hb, fun j hj => ?_⟩
  obtain ⟨g0, g1, g2, g3⟩ := btbs_get l j hj
  exact ⟨hc _ _ g0, by rw [Nat.add_assoc]; exact hc _ _ g1, by rw [Nat.add_assoc]; exact hc _ _ g2, by rw [Nat.add_assoc]; exact hc _ _ g3⟩
def WfS (l : List (Int × Int × Int × Nat)) : Prop := ∀ i, i < l.length → inI (sP l i) ∧ inI (sQ l i) ∧ inI (sW l i) ∧ sB l i < 18446744073709551616
theorem smbs_snoc (l : List (Int × Int × Int × Nat)) (p : Int × Int × Int × Nat) : smbs (l ++ [p]) = smbs l ++ [.int .i64 p.1, .int .i64 p.2.1, .int .i64 p.2.2.1, .float .f64 p.2.2.2] := by simp [smbs, syV]
theorem takeS_snoc {l : List (Int × Int × Int × Nat)} {k : Nat} (h : k < l.length) : l.take (k + 1) = l.take k ++ [(sP l k, sQ l k, sW l k, sB l k)] := by
  have e : l[k] = (sP l k, sQ l k, sW l k, sB l k) := by simp [sP, sQ, sW, sB, h]
  rw [List.take_succ_eq_append_getElem h, e]

/-! ### what is wrong -/
def btwB (a n b : Int) : Bool := decide (a ≤ n) && decide (n ≤ b)
def symB (p q wo : Int) (b : Nat) : Bool := btwB 1 p 1099511627776 && btwB 1 q 1099511627776 && decide (0 ≤ wo) && rightB b
def sizB (sh wi ra ta : Int) : Bool := btwB 1 sh 4 && btwB 0 wi 16 && btwB 1 ra 1000 && btwB 1 ta 64
def accB (n : Nat) (ac : List Int) : Bool := decide (∀ i, i < ac.length → inR n (gI ac i) = true)
def tabB (sy : List (Int × Int × Int × Nat)) : Bool := decide (∀ i, i < sy.length → symB (sP sy i) (sQ sy i) (sW sy i) (sB sy i) = true)
def cfgF (sh wi ra ta : Int) (nd : List (Int × Int)) (ac : List Int) (sy : List (Int × Int × Int × Nat)) : Int :=
  if sizB sh wi ra ta = false then 1
  else if ¬ (chk nd).1 = 0 then (chk nd).1
  else if ac.length = 0 ∨ 32 < ac.length then 3
  else if accB nd.length ac = false then 18
  else if sy.length = 0 ∨ 16 < sy.length then 4
  else if tabB sy = false then 1 else 0
theorem btw_t {a n b : Int} (h : a ≤ n) (h' : n ≤ b) : btwB a n b = true := by simp [btwB, h, h']
theorem btw_l {a n b : Int} (h : n < a) : btwB a n b = false := by simp [btwB]; omega
theorem btw_g {a n b : Int} (h : b < n) : btwB a n b = false := by simp [btwB]; omega
theorem accB_f {n : Nat} {ac : List Int} {i : Nat} (h : i < ac.length) (h' : inR n (gI ac i) = false) : accB n ac = false := by
  unfold accB
  simp only [decide_eq_false_iff_not]
  intro e
  rw [e i h] at h'
  exact absurd h' (by decide)
theorem accB_t {n : Nat} {ac : List Int} (h : ∀ i, i < ac.length → inR n (gI ac i) = true) : accB n ac = true := by
  unfold accB; simpa using h
theorem tabB_f {sy : List (Int × Int × Int × Nat)} {i : Nat} (h : i < sy.length) (h' : symB (sP sy i) (sQ sy i) (sW sy i) (sB sy i) = false) : tabB sy = false := by
  unfold tabB
  simp only [decide_eq_false_iff_not]
  intro e
  rw [e i h] at h'
  exact absurd h' (by decide)
theorem tabB_t {sy : List (Int × Int × Int × Nat)} (h : ∀ i, i < sy.length → symB (sP sy i) (sQ sy i) (sW sy i) (sB sy i) = true) : tabB sy = true := by
  unfold tabB; simpa using h
section
variable {sh wi ra ta : Int} {nd : List (Int × Int)} {ac : List Int} {sy : List (Int × Int × Int × Nat)}
theorem cfgF_1 (h : sizB sh wi ra ta = false) : cfgF sh wi ra ta nd ac sy = 1 := by unfold cfgF; rw [if_pos h]
theorem cfgF_2 (h : sizB sh wi ra ta = true) (h2 : ¬ (chk nd).1 = 0) : cfgF sh wi ra ta nd ac sy = (chk nd).1 := by
  unfold cfgF; rw [if_neg (by rw [h]; decide), if_pos h2]
theorem cfgF_3 (h : sizB sh wi ra ta = true) (h2 : (chk nd).1 = 0) (h3 : ac.length = 0 ∨ 32 < ac.length) : cfgF sh wi ra ta nd ac sy = 3 := by
  unfold cfgF; rw [if_neg (by rw [h]; decide), if_neg (by simp [h2]), if_pos h3]
theorem cfgF_4 (h : sizB sh wi ra ta = true) (h2 : (chk nd).1 = 0) (h3 : ¬ (ac.length = 0 ∨ 32 < ac.length)) (h4 : accB nd.length ac = false) : cfgF sh wi ra ta nd ac sy = 18 := by
  unfold cfgF; rw [if_neg (by rw [h]; decide), if_neg (by simp [h2]), if_neg h3, if_pos h4]
theorem cfgF_5 (h : sizB sh wi ra ta = true) (h2 : (chk nd).1 = 0) (h3 : ¬ (ac.length = 0 ∨ 32 < ac.length)) (h4 : accB nd.length ac = true) (h5 : sy.length = 0 ∨ 16 < sy.length) : cfgF sh wi ra ta nd ac sy = 4 := by
  unfold cfgF; rw [if_neg (by rw [h]; decide), if_neg (by simp [h2]), if_neg h3, if_neg (by rw [h4]; decide), if_pos h5]
theorem cfgF_6 (h : sizB sh wi ra ta = true) (h2 : (chk nd).1 = 0) (h3 : ¬ (ac.length = 0 ∨ 32 < ac.length)) (h4 : accB nd.length ac = true) (h5 : ¬ (sy.length = 0 ∨ 16 < sy.length)) (h6 : tabB sy = false) : cfgF sh wi ra ta nd ac sy = 1 := by
  unfold cfgF; rw [if_neg (by rw [h]; decide), if_neg (by simp [h2]), if_neg h3, if_neg (by rw [h4]; decide), if_neg h5, if_pos h6]
theorem cfgF_7 (h : sizB sh wi ra ta = true) (h2 : (chk nd).1 = 0) (h3 : ¬ (ac.length = 0 ∨ 32 < ac.length)) (h4 : accB nd.length ac = true) (h5 : ¬ (sy.length = 0 ∨ 16 < sy.length)) (h6 : tabB sy = true) : cfgF sh wi ra ta nd ac sy = 0 := by
  unfold cfgF; rw [if_neg (by rw [h]; decide), if_neg (by simp [h2]), if_neg h3, if_neg (by rw [h4]; decide), if_neg h5, if_neg (by rw [h6]; decide)]
end

/-! ### an order -/
/-- what is wrong with an order by the rules alone, and what it is worth -/
def lokF (ac : List Int) (sy : List (Int × Int × Int × Nat)) (a s p q n t : Int) : Int × Int :=
  if p < 1 ∨ q < 1 ∨ n < 0 ∨ t < 0 then (1, 0)
  else if inR ac.length a = false then (3, 0)
  else if inR sy.length s = false then (4, 0)
  else if sQ sy s.toNat < q then (5, 0)
  else if ¬ Fix.inB (p * q) = true then (6, 0)
  else if sW sy s.toNat < p * q then (7, 0)
  else if witB (sP sy s.toNat) p (sB sy s.toNat) = false then (8, 0)
  else (0, p * q)
/-- whose an account is -/
def shaF (sh : Int) (n : Nat) (a : Int) : Int := if sh < 1 ∨ inR n a = false then -1 else a % sh
end Go.Proofs.Ytjabfbeioapiaaa.Cfg

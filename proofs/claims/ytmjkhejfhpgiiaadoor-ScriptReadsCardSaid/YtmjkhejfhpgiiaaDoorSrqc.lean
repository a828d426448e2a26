/- Texts side by side. -/
import Derived.Laws.FloatArith
import Derived.WalkLawsBesides
import Derived.Laws.Externs
import Derived.ChangeSlices
import Derived.Lib.SmallJoins
import Derived.Deep.DeepCutAuto
import Derived.Test.YtmjkhejfhpgiiaaDoorSrqa
set_option linter.unusedVariables false
set_option linter.unusedSimpArgs false
set_option maxRecDepth 100000
set_option maxHeartbeats 16000000
namespace Go.Proofs.YtmjkhejfhpgiiaaDoor
namespace Flo
open Ieee
def B : Nat := 4503599627370496
def mag (R : Nat) : Nat := if R < B then R else B + R % B
def lift (R : Nat) : Nat := if R < B then 0 else R / B - 1
def N (R : Nat) : Nat := mag R * 2 ^ lift R
def up (q r g : Nat) : Bool := decide (g < 2 * r) || (decide (g = 2 * r) && decide (q % 2 = 1))
theorem beq_dec (a b : Nat) : (a == b) = decide (a = b) := rfl
def D (R : Nat) : Nat := N R / 2 ^ 1074
def rightB (b : Nat) : Bool := FloatKind.f64.format.order b 0 == some .gt || FloatKind.f64.format.order b 0 == some .eq
end Flo
namespace Bnd
open Go.ChangeShapes Go.WideShapes Go.ChangeAt Go.RowKit Flo
theorem right_any (b : Nat) (w : Go.World) :
    Calls Tryd.prog 33 #[.float .f64 b] w fun e w' => e = .returned (.bool (rightB b)) ∧ w = w' := by
  go_enter Tryd.func33, Tryd.ntmps33
  go_wp2
  go_ret
  exact ⟨rfl, rfl⟩
end Bnd
namespace Fix
open Go.ChangeShapes Go.WideShapes Go.ChangeAt Go.RowKit
def ToldB (b : Bool) (w : Go.World) (e : Ending) (w' : Go.World) : Prop := e = .returned (.bool b) ∧ w = w'
end Fix
namespace Cfg
open Go.ChangeShapes Go.WideShapes Go.RowKit Mem Tre Ref3 Law3 Fix3 Opn Bnd Flo
theorem run_store_float {P : Program} {w : World} {a : Addr} {m : Mode} (k : FloatKind) (n : Nat) : (store a (.float k n) m).run P w = stored P w a (.float k n) m := run_store P w a _ m rfl
def sP (l : List (Int × Int × Int × Nat)) (i : Nat) : Int := (l.getD i (0, 0, 0, 0)).1
def sQ (l : List (Int × Int × Int × Nat)) (i : Nat) : Int := (l.getD i (0, 0, 0, 0)).2.1
def sW (l : List (Int × Int × Int × Nat)) (i : Nat) : Int := (l.getD i (0, 0, 0, 0)).2.2.1
def sB (l : List (Int × Int × Int × Nat)) (i : Nat) : Nat := (l.getD i (0, 0, 0, 0)).2.2.2
def syV (p : Int × Int × Int × Nat) : List Value := [.int .i64 p.1, .int .i64 p.2.1, .int .i64 p.2.2.1, .float .f64 p.2.2.2]
def btV (p : Int × Int × Int × Nat) : List Value := [.int .i64 p.1, .int .i64 p.2.1, .int .i64 p.2.2.1, .int .u64 (p.2.2.2 : Int)]
def smbs (l : List (Int × Int × Int × Nat)) : List Value := l.flatMap syV
def btbs (l : List (Int × Int × Int × Nat)) : List Value := l.flatMap btV
theorem smbs_len (l : List (Int × Int × Int × Nat)) : (smbs l).length = l.length * 4 := by
  induction l with
  | nil => rfl
  | cons p l ih => simp [smbs, syV] at ih ⊢; omega
theorem btbs_len (l : List (Int × Int × Int × Nat)) : (btbs l).length = l.length * 4 := by
  induction l with
  | nil => rfl
  | cons p l ih => simp [btbs, btV] at ih ⊢; omega
theorem smbs_get (l : List (Int × Int × Int × Nat)) (i : Nat) (hi : i < l.length) :
    (smbs l)[i * 4]? = some (.int .i64 (sP l i)) ∧ (smbs l)[i * 4 + 1]? = some (.int .i64 (sQ l i)) ∧ (smbs l)[i * 4 + 2]? = some (.int .i64 (sW l i)) ∧ (smbs l)[i * 4 + 3]? = some (.float .f64 (sB l i)) := by
  induction l generalizing i with
  | nil => simp at hi
  | cons p l ih =>
    cases i with
    | zero => simp [smbs, syV, sP, sQ, sW, sB]
    | succ i =>
      have := ih i (by simpa using hi)
      rw [show (i + 1) * 4 = i * 4 + 4 by omega, show i * 4 + 4 + 1 = (i * 4 + 1) + 4 by omega, show i * 4 + 4 + 2 = (i * 4 + 2) + 4 by omega, show i * 4 + 4 + 3 = (i * 4 + 3) + 4 by omega]
      simpa [smbs, syV, sP, sQ, sW, sB] using this
theorem btbs_get (l : List (Int × Int × Int × Nat)) (i : Nat) (hi : i < l.length) :
    (btbs l)[i * 4]? = some (.int .i64 (sP l i)) ∧ (btbs l)[i * 4 + 1]? = some (.int .i64 (sQ l i)) ∧ (btbs l)[i * 4 + 2]? = some (.int .i64 (sW l i)) ∧ (btbs l)[i * 4 + 3]? = some (.int .u64 (sB l i : Int)) := by
  induction l generalizing i with
  | nil => simp at hi
  | cons p l ih =>
    cases i with
    | zero => simp [btbs, btV, sP, sQ, sW, sB]
    | succ i =>
      have := ih i (by simpa using hi)
      rw [show (i + 1) * 4 = i * 4 + 4 by omega, show i * 4 + 4 + 1 = (i * 4 + 1) + 4 by omega, show i * 4 + 4 + 2 = (i * 4 + 2) + 4 by omega, show i * 4 + 4 + 3 = (i * 4 + 3) + 4 by omega]
      simpa [btbs, btV, sP, sQ, sW, sB] using this
def Smb (w : World) (B : Nat) (A : Option Addr) (l : List (Int × Int × Int × Nat)) : Prop := Rd w B A (smbs l)
def Btb (w : World) (B : Nat) (A : Option Addr) (l : List (Int × Int × Int × Nat)) : Prop := Rd w B A (btbs l)
theorem Smb.at {w : World} {B : Nat} {A : Option Addr} {l : List (Int × Int × Int × Nat)} (h : Smb w B A l) {i : Nat} (hi : i < l.length) :
    ∃ b o, A = some ⟨b, o, none⟩ ∧ b < B ∧ ∀ j, j < l.length → w.cell? ⟨b, o + j * 4, none⟩ = some (.int .i64 (sP l j)) ∧ w.cell? ⟨b, o + j * 4 + 1, none⟩ = some (.int .i64 (sQ l j)) ∧ w.cell? ⟨b, o + j * 4 + 2, none⟩ = some (.int .i64 (sW l j)) ∧ w.cell? ⟨b, o + j * 4 + 3, none⟩ = some (.float .f64 (sB l j)) := by
  obtain ⟨b, o, hA, hb, hc⟩ := Rd.at h (by intro e; have := smbs_len l; rw [e] at this; simp at this; omega)
  refine ⟨b, o, hA, hb, fun j hj => ?_⟩
  obtain ⟨g0, g1, g2, g3⟩ := smbs_get l j hj
  exact ⟨hc _ _ g0, by rw [Nat.add_assoc]; exact hc _ _ g1, by rw [Nat.add_assoc]; exact hc _ _ g2, by rw [Nat.add_assoc]; exact hc _ _ g3⟩
theorem Btb.at {w : World} {B : Nat} {A : Option Addr} {l : List (Int × Int × Int × Nat)} (h : Btb w B A l) {i : Nat} (hi : i < l.length) :
    ∃ b o, A = some ⟨b, o, none⟩ ∧ b < B ∧ ∀ j, j < l.length → w.cell? ⟨b, o + j * 4, none⟩ = some (.int .i64 (sP l j)) ∧ w.cell? ⟨b, o + j * 4 + 1, none⟩ = some (.int .i64 (sQ l j)) ∧ w.cell? ⟨b, o + j * 4 + 2, none⟩ = some (.int .i64 (sW l j)) ∧ w.cell? ⟨b, o + j * 4 + 3, none⟩ = some (.int .u64 (sB l j : Int)) := by
  obtain ⟨b, o, hA, hb, hc⟩ := Rd.at h (by intro e; have := btbs_len l; rw [e] at this; simp at this; omega)
  refine ⟨b, o, hA, hb, fun j hj => ?_⟩
  obtain ⟨g0, g1, g2, g3⟩ := btbs_get l j hj
  exact ⟨hc _ _ g0, by rw [Nat.add_assoc]; exact hc _ _ g1, by rw [Nat.add_assoc]; exact hc _ _ g2, by rw [Nat.add_assoc]; exact hc _ _ g3⟩
theorem smbs_snoc (l : List (Int × Int × Int × Nat)) (p : Int × Int × Int × Nat) : smbs (l ++ [p]) = smbs l ++ [.int .i64 p.1, .int .i64 p.2.1, .int .i64 p.2.2.1, .float .f64 p.2.2.2] := by simp [smbs, syV]
theorem takeS_snoc {l : List (Int × Int × Int × Nat)} {k : Nat} (h : k < l.length) : l.take (k + 1) = l.take k ++ [(sP l k, sQ l k, sW l k, sB l k)] := by
  have e : l[k] = (sP l k, sQ l k, sW l k, sB l k) := by simp [sP, sQ, sW, sB, h]
  rw [List.take_succ_eq_append_getElem h, e]
def btwB (a n b : Int) : Bool := decide (a ≤ n) && decide (n ≤ b)
def symB (p q wo : Int) (b : Nat) : Bool := btwB 1 p 1099511627776 && btwB 1 q 1099511627776 && decide (0 ≤ wo) && rightB b
def sizB (sh wi ra ta : Int) : Bool := btwB 1 sh 4 && btwB 0 wi 16 && btwB 1 ra 1000 && btwB 1 ta 64
def accB (n : Nat) (ac : List Int) : Bool := decide (∀ i, i < ac.length → inR n (gI ac i) = true)
def tabB (sy : List (Int × Int × Int × Nat)) : Bool := decide (∀ i, i < sy.length → symB (sP sy i) (sQ sy i) (sW sy i) (sB sy i) = true)
def cfgF (sh wi ra ta : Int) (nd : List (Int × Int)) (ac : List Int) (sy : List (Int × Int × Int × Nat)) : Int :=
  if sizB sh wi ra ta = false then 1
  else if ¬ (chk nd).1 = 0 then (chk nd).1
  else if ac.length = 0 ∨ 32 < ac.length then 3
  else if accB nd.length ac = false then 18
  else if sy.length = 0 ∨ 16 < sy.length then 4
  else if tabB sy = false then 1 else 0
theorem btw_t {a n b : Int} (h : a ≤ n) (h' : n ≤ b) : btwB a n b = true := by simp [btwB, h, h']
theorem btw_l {a n b : Int} (h : n < a) : btwB a n b = false := by simp [btwB]; omega
theorem btw_g {a n b : Int} (h : b < n) : btwB a n b = false := by simp [btwB]; omega
theorem accB_f {n : Nat} {ac : List Int} {i : Nat} (h : i < ac.length) (h' : inR n (gI ac i) = false) : accB n ac = false := by
  unfold accB
  simp only [decide_eq_false_iff_not]
  intro e
  rw [e i h] at h'
  exact absurd h' (by decide)
theorem accB_t {n : Nat} {ac : List Int} (h : ∀ i, i < ac.length → inR n (gI ac i) = true) : accB n ac = true := by
  unfold accB; simpa using h
theorem tabB_f {sy : List (Int × Int × Int × Nat)} {i : Nat} (h : i < sy.length) (h' : symB (sP sy i) (sQ sy i) (sW sy i) (sB sy i) = false) : tabB sy = false := by
  unfold tabB
  simp only [decide_eq_false_iff_not]
  intro e
  rw [e i h] at h'
  exact absurd h' (by decide)
theorem tabB_t {sy : List (Int × Int × Int × Nat)} (h : ∀ i, i < sy.length → symB (sP sy i) (sQ sy i) (sW sy i) (sB sy i) = true) : tabB sy = true := by
  unfold tabB; simpa using h
section
variable {sh wi ra ta : Int} {nd : List (Int × Int)} {ac : List Int} {sy : List (Int × Int × Int × Nat)}
theorem cfgF_1 (h : sizB sh wi ra ta = false) : cfgF sh wi ra ta nd ac sy = 1 := by unfold cfgF; rw [if_pos h]
theorem cfgF_2 (h : sizB sh wi ra ta = true) (h2 : ¬ (chk nd).1 = 0) : cfgF sh wi ra ta nd ac sy = (chk nd).1 := by
  unfold cfgF; rw [if_neg (by rw [h]; decide), if_pos h2]
theorem cfgF_3 (h : sizB sh wi ra ta = true) (h2 : (chk nd).1 = 0) (h3 : ac.length = 0 ∨ 32 < ac.length) : cfgF sh wi ra ta nd ac sy = 3 := by
  unfold cfgF; rw [if_neg (by rw [h]; decide), if_neg (by simp [h2]), if_pos h3]
theorem cfgF_4 (h : sizB sh wi ra ta = true) (h2 : (chk nd).1 = 0) (h3 : ¬ (ac.length = 0 ∨ 32 < ac.length)) (h4 : accB nd.length ac = false) : cfgF sh wi ra ta nd ac sy = 18 := by
  unfold cfgF; rw [if_neg (by rw [h]; decide), if_neg (by simp [h2]), if_neg h3, if_pos h4]
theorem cfgF_5 (h : sizB sh wi ra ta = true) (h2 : (chk nd).1 = 0) (h3 : ¬ (ac.length = 0 ∨ 32 < ac.length)) (h4 : accB nd.length ac = true) (h5 : sy.length = 0 ∨ 16 < sy.length) : cfgF sh wi ra ta nd ac sy = 4 := by
  unfold cfgF; rw [if_neg (by rw [h]; decide), if_neg (by simp [h2]), if_neg h3, if_neg (by rw [h4]; decide), if_pos h5]
theorem cfgF_6 (h : sizB sh wi ra ta = true) (h2 : (chk nd).1 = 0) (h3 : ¬ (ac.length = 0 ∨ 32 < ac.length)) (h4 : accB nd.length ac = true) (h5 : ¬ (sy.length = 0 ∨ 16 < sy.length)) (h6 : tabB sy = false) : cfgF sh wi ra ta nd ac sy = 1 := by
  unfold cfgF; rw [if_neg (by rw [h]; decide), if_neg (by simp [h2]), if_neg h3, if_neg (by rw [h4]; decide), if_neg h5, if_pos h6]
theorem cfgF_7 (h : sizB sh wi ra ta = true) (h2 : (chk nd).1 = 0) (h3 : ¬ (ac.length = 0 ∨ 32 < ac.length)) (h4 : accB nd.length ac = true) (h5 : ¬ (sy.length = 0 ∨ 16 < sy.length)) (h6 : tabB sy = true) : cfgF sh wi ra ta nd ac sy = 0 := by
  unfold cfgF; rw [if_neg (by rw [h]; decide), if_neg (by simp [h2]), if_neg h3, if_neg (by rw [h4]; decide), if_neg h5, if_neg (by rw [h6]; decide)]
end
end Cfg
namespace Rul1
open Go.ChangeShapes Go.WideShapes Go.ChangeAt Go.RowKit Mem Tre Ref3 Law3 Fix3 Opn Bnd Flo Cfg
attribute [local go_sem] run_store_float
def MadeX (x : Int) (w : World) (e : Ending) (w' : World) : Prop := e = .returned (.int .i64 x) ∧ Below w.heap.size w w'
theorem madeX_mk {x y : Int} {w w' : World} (h : x = y) (hb : Below w.heap.size w w') : MadeX x w (.returned (.int .i64 y)) w' := by subst h; exact ⟨rfl, hb⟩
theorem below_step {a b c : World} (h : Below a.heap.size a b) (k : Below b.heap.size b c) : Below a.heap.size a c := h.trans (k.mono h.size)
theorem btwI_any (a n b : Int) (w : World) : Calls Tryd.prog 29 #[.int .i64 a, .int .i64 n, .int .i64 b] w (ToldB (btwB a n b) w) := by
  by_cases h0 : a ≤ n
  · by_cases h1 : n ≤ b
    · have e := Lib.hid (btw_t h0 h1)
      go_enter Tryd.func29, Tryd.ntmps29
      go_wp2
      go_ret
      exact ⟨by rw [e.out]; rfl, rfl⟩
    · have e := Lib.hid (btw_g (a := a) (n := n) (b := b) (by omega))
      go_enter Tryd.func29, Tryd.ntmps29
      go_wp2
      go_ret
      exact ⟨by rw [e.out]; rfl, rfl⟩
  · have e := Lib.hid (btw_l (a := a) (n := n) (b := b) (by omega))
    go_enter Tryd.func29, Tryd.ntmps29
    go_wp2
    go_ret
    exact ⟨by rw [e.out]; rfl, rfl⟩
theorem btwL_any (a n b : Int) (w : World) : Calls Tryd.prog 32 #[.int .i64 a, .int .i64 n, .int .i64 b] w (ToldB (btwB a n b) w) := by
  by_cases h0 : a ≤ n
  · by_cases h1 : n ≤ b
    · have e := Lib.hid (btw_t h0 h1)
      go_enter Tryd.func32, Tryd.ntmps32
      go_wp2
      go_ret
      exact ⟨by rw [e.out]; rfl, rfl⟩
    · have e := Lib.hid (btw_g (a := a) (n := n) (b := b) (by omega))
      go_enter Tryd.func32, Tryd.ntmps32
      go_wp2
      go_ret
      exact ⟨by rw [e.out]; rfl, rfl⟩
  · have e := Lib.hid (btw_l (a := a) (n := n) (b := b) (by omega))
    go_enter Tryd.func32, Tryd.ntmps32
    go_wp2
    go_ret
    exact ⟨by rw [e.out]; rfl, rfl⟩
theorem hasN_any (A : Option Addr) (n c : Nat) (k : Int) (w : World) :
    Calls Tryd.prog 19 #[.slice A n c, .int .i64 k] w (ToldB (inR n k) w) := by
  by_cases h0 : 0 ≤ k
  · by_cases h1 : k < n
    · go_enter Tryd.func19, Tryd.ntmps19
      go_wp2
      go_ret
      exact ⟨by rw [inR_t h0 h1]; rfl, rfl⟩
    · go_enter Tryd.func19, Tryd.ntmps19
      go_wp2
      go_ret
      exact ⟨by rw [inR_f (by omega)]; rfl, rfl⟩
  · go_enter Tryd.func19, Tryd.ntmps19
    go_wp2
    go_ret
    exact ⟨by rw [inR_f (by omega)]; rfl, rfl⟩
theorem sized_any (sh wi ra ta : Int) (A B C : Option Addr) (n m k c d f : Nat) (w : World) :
    Calls Tryd.prog 17 #[.agg #[.int .i64 sh, .int .i64 wi, .int .i64 ra, .int .i64 ta, .slice A n c, .slice B m d, .slice C k f]] w (MadeB (sizB sh wi ra ta) w) := by
  have E : Hid (sizB sh wi ra ta = (btwB 1 sh 4 && btwB 0 wi 16 && btwB 1 ra 1000 && btwB 1 ta 64)) := rfl
  cases h1 : btwB 1 sh 4
  · have E1 : Hid (sizB sh wi ra ta = false) := by have := E.out; rw [h1] at this; exact this
    go_enter Tryd.func17, Tryd.ntmps17
    go_wp2_with (go_at_call 29; refine (btwI_any _ _ _ _).mono ?_; rintro e w1 ⟨rfl, rfl⟩)
    go_ret
    exact madeB_mk E1.out ((Below.refl _ _).alloc (Nat.le_refl _) _)
  cases h2 : btwB 0 wi 16
  · have E1 : Hid (sizB sh wi ra ta = false) := by have := E.out; rw [h1, h2] at this; exact this
    go_enter Tryd.func17, Tryd.ntmps17
    go_wp2_with (go_at_call 29; refine (btwI_any _ _ _ _).mono ?_; rintro e w1 ⟨rfl, rfl⟩)
    go_ret
    exact madeB_mk E1.out ((Below.refl _ _).alloc (Nat.le_refl _) _)
  cases h3 : btwB 1 ra 1000
  · have E1 : Hid (sizB sh wi ra ta = false) := by have := E.out; rw [h1, h2, h3] at this; exact this
    go_enter Tryd.func17, Tryd.ntmps17
    go_wp2_with (go_at_call 29; refine (btwI_any _ _ _ _).mono ?_; rintro e w1 ⟨rfl, rfl⟩)
    go_ret
    exact madeB_mk E1.out ((Below.refl _ _).alloc (Nat.le_refl _) _)
  cases h4 : btwB 1 ta 64
  · have E1 : Hid (sizB sh wi ra ta = false) := by have := E.out; rw [h1, h2, h3, h4] at this; exact this
    go_enter Tryd.func17, Tryd.ntmps17
    go_wp2_with (go_at_call 29; refine (btwI_any _ _ _ _).mono ?_; rintro e w1 ⟨rfl, rfl⟩)
    go_ret
    exact madeB_mk E1.out ((Below.refl _ _).alloc (Nat.le_refl _) _)
  · have E1 : Hid (sizB sh wi ra ta = true) := by have := E.out; rw [h1, h2, h3, h4] at this; exact this
    go_enter Tryd.func17, Tryd.ntmps17
    go_wp2_with (go_at_call 29; refine (btwI_any _ _ _ _).mono ?_; rintro e w1 ⟨rfl, rfl⟩)
    go_ret
    exact madeB_mk E1.out ((Below.refl _ _).alloc (Nat.le_refl _) _)
theorem tradable_any (p q wo : Int) (b : Nat) (w : World) :
    Calls Tryd.prog 20 #[.agg #[.int .i64 p, .int .i64 q, .int .i64 wo, .float .f64 b]] w (MadeB (symB p q wo b) w) := by
  have E : Hid (symB p q wo b = (btwB 1 p 1099511627776 && btwB 1 q 1099511627776 && decide (0 ≤ wo) && rightB b)) := rfl
  cases h1 : btwB 1 p 1099511627776
  · have E1 : Hid (symB p q wo b = false) := by have := E.out; rw [h1] at this; exact this
    go_enter Tryd.func20, Tryd.ntmps20
    go_wp2_with (first | (go_at_call 32; refine (btwL_any _ _ _ _).mono ?_; rintro e w1 ⟨rfl, rfl⟩) | (go_at_call 33; refine (Bnd.right_any _ _).mono ?_; rintro e w1 ⟨rfl, rfl⟩))
    go_ret
    exact madeB_mk E1.out ((Below.refl _ _).alloc (Nat.le_refl _) _)
  cases h2 : btwB 1 q 1099511627776
  · have E1 : Hid (symB p q wo b = false) := by have := E.out; rw [h1, h2] at this; exact this
    go_enter Tryd.func20, Tryd.ntmps20
    go_wp2_with (first | (go_at_call 32; refine (btwL_any _ _ _ _).mono ?_; rintro e w1 ⟨rfl, rfl⟩) | (go_at_call 33; refine (Bnd.right_any _ _).mono ?_; rintro e w1 ⟨rfl, rfl⟩))
    go_ret
    exact madeB_mk E1.out ((Below.refl _ _).alloc (Nat.le_refl _) _)
  by_cases h3 : 0 ≤ wo
  · cases h4 : rightB b
    · have E1 : Hid (symB p q wo b = false) := by have := E.out; rw [h1, h2, h4, decide_eq_true h3] at this; exact this
      go_enter Tryd.func20, Tryd.ntmps20
      go_wp2_with (first | (go_at_call 32; refine (btwL_any _ _ _ _).mono ?_; rintro e w1 ⟨rfl, rfl⟩) | (go_at_call 33; refine (Bnd.right_any _ _).mono ?_; rintro e w1 ⟨rfl, rfl⟩))
      go_ret
      exact madeB_mk E1.out ((Below.refl _ _).alloc (Nat.le_refl _) _)
    · have E1 : Hid (symB p q wo b = true) := by have := E.out; rw [h1, h2, h4, decide_eq_true h3] at this; exact this
      go_enter Tryd.func20, Tryd.ntmps20
      go_wp2_with (first | (go_at_call 32; refine (btwL_any _ _ _ _).mono ?_; rintro e w1 ⟨rfl, rfl⟩) | (go_at_call 33; refine (Bnd.right_any _ _).mono ?_; rintro e w1 ⟨rfl, rfl⟩))
      go_ret
      exact madeB_mk E1.out ((Below.refl _ _).alloc (Nat.le_refl _) _)
  · have E1 : Hid (symB p q wo b = false) := by have := E.out; rw [h1, h2, decide_eq_false h3] at this; exact this
    have h4 : decide (0 ≤ wo) = false := decide_eq_false h3
    go_enter Tryd.func20, Tryd.ntmps20
    go_wp2_with (first | (go_at_call 32; refine (btwL_any _ _ _ _).mono ?_; rintro e w1 ⟨rfl, rfl⟩) | (go_at_call 33; refine (Bnd.right_any _ _).mono ?_; rintro e w1 ⟨rfl, rfl⟩))
    go_ret
    exact madeB_mk E1.out ((Below.refl _ _).alloc (Nat.le_refl _) _)
theorem check5_any (sh wi ra ta : Int) (A B C : Option Addr) (c d f : Nat) (nd : List (Int × Int)) (ac : List Int) (sy : List (Int × Int × Int × Nat)) (w : World)
    (hl : Hid (Nds w w.heap.size A nd)) (hu : Hid (Ris w w.heap.size B ac)) (hs : Hid (Smb w w.heap.size C sy)) (hw : Hid (WfN nd)) (hmax : (nd.length : Int) ≤ 1000000) (hmay : (ac.length : Int) ≤ 1000000) (hmaz : (sy.length : Int) ≤ 1000000) :
    Calls Tryd.prog 7 #[.agg #[.int .i64 sh, .int .i64 wi, .int .i64 ra, .int .i64 ta, .slice A nd.length c, .slice B ac.length d, .slice C sy.length f]] w (MadeX (cfgF sh wi ra ta nd ac sy) w) := by
  have b0 : Below w.heap.size w (w.alloc (.cells #[.int .i64 sh, .int .i64 wi, .int .i64 ra, .int .i64 ta, .slice A nd.length c, .slice B ac.length d, .slice C sy.length f] 27)) := (Below.refl _ _).alloc (Nat.le_refl _) _
  have l0 : Hid (Nds (w.alloc (.cells #[.int .i64 sh, .int .i64 wi, .int .i64 ra, .int .i64 ta, .slice A nd.length c, .slice B ac.length d, .slice C sy.length f] 27)) (w.alloc (.cells #[.int .i64 sh, .int .i64 wi, .int .i64 ra, .int .i64 ta, .slice A nd.length c, .slice B ac.length d, .slice C sy.length f] 27)).heap.size A nd) := Rd.below' hl.out b0 b0.size
  have ua0 : Hid (Ris (w.alloc (.cells #[.int .i64 sh, .int .i64 wi, .int .i64 ra, .int .i64 ta, .slice A nd.length c, .slice B ac.length d, .slice C sy.length f] 27)) (w.alloc (.cells #[.int .i64 sh, .int .i64 wi, .int .i64 ra, .int .i64 ta, .slice A nd.length c, .slice B ac.length d, .slice C sy.length f] 27)).heap.size B ac) := Rd.below' hu.out b0 b0.size
  have s0 : Hid (Smb (w.alloc (.cells #[.int .i64 sh, .int .i64 wi, .int .i64 ra, .int .i64 ta, .slice A nd.length c, .slice B ac.length d, .slice C sy.length f] 27)) (w.alloc (.cells #[.int .i64 sh, .int .i64 wi, .int .i64 ra, .int .i64 ta, .slice A nd.length c, .slice B ac.length d, .slice C sy.length f] 27)).heap.size C sy) := Rd.below' hs.out b0 b0.size
  have k0 : Hid (Blk (w.alloc (.cells #[.int .i64 sh, .int .i64 wi, .int .i64 ra, .int .i64 ta, .slice A nd.length c, .slice B ac.length d, .slice C sy.length f] 27)) w.heap.size 27 #[.int .i64 sh, .int .i64 wi, .int .i64 ra, .int .i64 ta, .slice A nd.length c, .slice B ac.length d, .slice C sy.length f]) := Blk.fresh _ _ _
  go_enter Tryd.func7, Tryd.ntmps7
  go_wp2_with fail
  generalize (w.alloc (.cells #[.int .i64 sh, .int .i64 wi, .int .i64 ra, .int .i64 ta, .slice A nd.length c, .slice B ac.length d, .slice C sy.length f] 27)) = W0 at b0 l0 ua0 s0 k0 ⊢
  refine (sized_any sh wi ra ta A B C nd.length ac.length sy.length c d f _).mono ?_
  rintro e w1 ⟨rfl, hb1⟩
  have b1 := below_step b0 hb1
  have k1 := Lib.hid (Blk.below' k0.out hb1)
  have l1 : Hid (Nds w1 w1.heap.size A nd) := Rd.below' l0.out hb1 hb1.size
  have ua1 : Hid (Ris w1 w1.heap.size B ac) := Rd.below' ua0.out hb1 hb1.size
  have s1 : Hid (Smb w1 w1.heap.size C sy) := Rd.below' s0.out hb1 hb1.size
  have f4 : w1.cell? ⟨w.heap.size, 4, none⟩ = some (.slice A nd.length c) := k1.out.cell 4
  clear b0 l0 ua0 s0 k0 hb1
  cases hsz : sizB sh wi ra ta
  · have E : Hid (cfgF sh wi ra ta nd ac sy = 1) := cfgF_1 hsz
    go_wp2_with fail
    go_ret
    exact madeX_mk E.out b1
  have HSZ := Lib.hid hsz
  go_wp2_with fail
  refine (check_any A c nd w1 l1.out hw (by omega)).mono ?_
  rintro e w2 ⟨rfl, hb2⟩
  have b2 := below_step b1 hb2
  have k2 := Lib.hid (Blk.below' k1.out hb2)
  have ua2 : Hid (Ris w2 w2.heap.size B ac) := Rd.below' ua1.out hb2 hb2.size
  have s2 : Hid (Smb w2 w2.heap.size C sy) := Rd.below' s1.out hb2 hb2.size
  have g4 : w2.cell? ⟨w.heap.size, 4, none⟩ = some (.slice A nd.length c) := k2.out.cell 4
  have g5 : w2.cell? ⟨w.heap.size, 5, none⟩ = some (.slice B ac.length d) := k2.out.cell 5
  have g6 : w2.cell? ⟨w.heap.size, 6, none⟩ = some (.slice C sy.length f) := k2.out.cell 6
  clear b1 k1 l1 ua1 s1 hb2 f4 hsz
  by_cases hc : (chk nd).1 = 0
  case neg =>
    have c1 : ((chk nd).1 != 0) = true := by simp [hc]
    have c2 : ((chk nd).1 == 0) = false := by simp [hc]
    have E : Hid (cfgF sh wi ra ta nd ac sy = (chk nd).1) := cfgF_2 HSZ.out hc
    clear hc
    go_wp2_with fail
    go_ret
    exact madeX_mk E.out b2
  have c1 : ((chk nd).1 != 0) = false := by simp [hc]
  have c2 : ((chk nd).1 == 0) = true := by simp [hc]
  have HC := Lib.hid hc
  clear hc
  by_cases ha0 : ac.length = 0
  · have q1 : ((ac.length : Int) == 0) = true := beq_iff_eq.2 (by omega)
    have E : Hid (cfgF sh wi ra ta nd ac sy = 3) := cfgF_3 HSZ.out HC.out (.inl ha0)
    clear ha0
    go_wp2_with fail
    go_ret
    exact madeX_mk E.out b2
  have q1 : ((ac.length : Int) == 0) = false := beq_eq_false_iff_ne.2 (by omega)
  by_cases ha1 : 32 < ac.length
  · have E : Hid (cfgF sh wi ra ta nd ac sy = 3) := cfgF_3 HSZ.out HC.out (.inr ha1)
    go_wp2_with fail
    go_ret
    exact madeX_mk E.out b2
  have HA : Hid (¬ (ac.length = 0 ∨ 32 < ac.length)) := by show ¬ _; omega
  clear ha0
  go_wp2_with fail
  go_loopg [34] ac.length (fun g s34 w' => ∃ (k : Nat), k + g = ac.length ∧ s34 = .int .i64 k ∧ Hid (∀ i, i < k → inR nd.length (gI ac i) = true) ∧ w2 = w')
  case atStart => exact ⟨0, by omega, rfl, fun i hi => absurd hi (Nat.not_lt_zero i), rfl⟩
  case round =>
    obtain ⟨k, hk, rfl, hall, rfl⟩ := hrel
    by_cases hlt : (k : Int) < (ac.length : Int)
    · obtain ⟨g, rfl⟩ : ∃ g, gk = g + 1 := ⟨gk - 1, by omega⟩
      obtain ⟨b, o, rfl, hb, hcc⟩ := Ris.at (i := k) ua2.out (by omega)
      have d0 := hcc k (by omega)
      clear hcc
      cases hin : inR nd.length (gI ac k)
      · have E : Hid (cfgF sh wi ra ta nd ac sy = 18) := cfgF_4 HSZ.out HC.out HA.out (accB_f (by omega) hin)
        go_wp2_with (go_at_call 19; refine (hasN_any _ _ _ _ _).mono ?_; rintro e w3 ⟨rfl, rfl⟩)
        go_ret
        exact madeX_mk E.out b2
      · have hall' : Hid (∀ i, i < k + 1 → inR nd.length (gI ac i) = true) := fun i hi => by
          by_cases e : i = k
          · subst e; exact hin
          · exact hall.out i (by omega)
        go_wp2_with (go_at_call 19; refine (hasN_any _ _ _ _ _).mono ?_; rintro e w3 ⟨rfl, rfl⟩)
        go_roundg g
        case measure => omega
        case rel => exact ⟨k + 1, by omega, by go_num, hall', rfl⟩
    · have HB : Hid (accB nd.length ac = true) := accB_t fun i hi => hall.out i (by omega)
      clear hk
      by_cases ha0 : sy.length = 0
      · have q2 : ((sy.length : Int) == 0) = true := beq_iff_eq.2 (by omega)
        have E : Hid (cfgF sh wi ra ta nd ac sy = 4) := cfgF_5 HSZ.out HC.out HA.out HB.out (.inl ha0)
        clear ha0
        go_wp2_with fail
        go_ret
        exact madeX_mk E.out b2
      have q2 : ((sy.length : Int) == 0) = false := beq_eq_false_iff_ne.2 (by omega)
      by_cases ha2 : 16 < sy.length
      · have E : Hid (cfgF sh wi ra ta nd ac sy = 4) := cfgF_5 HSZ.out HC.out HA.out HB.out (.inr ha2)
        go_wp2_with fail
        go_ret
        exact madeX_mk E.out b2
      have HD : Hid (¬ (sy.length = 0 ∨ 16 < sy.length)) := by show ¬ _; omega
      clear ha0
      go_wp2_with fail
      go_loopg [57] sy.length (fun g s57 w' => ∃ (j : Nat), j + g = sy.length ∧ s57 = .int .i64 j ∧ Hid (∀ i, i < j → symB (sP sy i) (sQ sy i) (sW sy i) (sB sy i) = true) ∧ Below w2.heap.size w2 w')
      case atStart => exact ⟨0, by omega, rfl, fun i hi => absurd hi (Nat.not_lt_zero i), Below.refl _ _⟩
      case round =>
        obtain ⟨j, hj, rfl, hall2, hbel⟩ := hrel
        have bE := below_step b2 hbel
        by_cases hlt2 : (j : Int) < (sy.length : Int)
        · obtain ⟨g, rfl⟩ : ∃ g, gk = g + 1 := ⟨gk - 1, by omega⟩
          obtain ⟨b, o, rfl, hb, hcc⟩ := Smb.at (i := j) s2.out (by omega)
          obtain ⟨r0, r1, r2, r3⟩ := hcc j (by omega)
          have d0 := (hbel.cell (p := ⟨b, o + j * 4, none⟩) hb).trans r0
          have d1 := (hbel.cell (p := ⟨b, o + j * 4 + 1, none⟩) hb).trans r1
          have d2 := (hbel.cell (p := ⟨b, o + j * 4 + 2, none⟩) hb).trans r2
          have d3 := (hbel.cell (p := ⟨b, o + j * 4 + 3, none⟩) hb).trans r3
          clear hcc r0 r1 r2 r3
          cases hin : symB (sP sy j) (sQ sy j) (sW sy j) (sB sy j)
          · have E : Hid (cfgF sh wi ra ta nd ac sy = 1) := cfgF_6 HSZ.out HC.out HA.out HB.out HD.out (tabB_f (by omega) hin)
            go_wp2_with fail
            refine (tradable_any _ _ _ _ _).mono ?_
            rintro e w3 ⟨rfl, hb3⟩
            have b3 := below_step (bE.alloc bE.size _) hb3
            go_wp2_with fail
            go_ret
            exact madeX_mk E.out b3
          · have hall' : Hid (∀ i, i < j + 1 → symB (sP sy i) (sQ sy i) (sW sy i) (sB sy i) = true) := fun i hi => by
              by_cases e : i = j
              · subst e; exact hin
              · exact hall2.out i (by omega)
            go_wp2_with fail
            refine (tradable_any _ _ _ _ _).mono ?_
            rintro e w3 ⟨rfl, hb3⟩
            have b3 := below_step (hbel.alloc hbel.size _) hb3
            go_wp2_with fail
            go_roundg g
            case measure => omega
            case rel => exact ⟨j + 1, by omega, by go_num, hall', b3⟩
        · have E : Hid (cfgF sh wi ra ta nd ac sy = 0) := cfgF_7 HSZ.out HC.out HA.out HB.out HD.out (tabB_t fun i hi => hall2.out i (by omega))
          go_wp2_with fail
          go_ret
          exact madeX_mk E.out bE
end Rul1
namespace St7
open Go.ChangeShapes Go.WideShapes Go.ChangeAt Go.RowKit Mem Tre Ref3 Law3 Fix3 Opn Bnd Flo Cfg CrdB CrdC Rr4 Fr4
attribute [local go_sem] run_store_float
def st7 (W : World) (g : Nat) (a b c d e f h : Value) : World :=
  ((((((W.setCell ⟨g, 0, none⟩ a).setCell ⟨g, 1, none⟩ b).setCell ⟨g, 2, none⟩ c).setCell ⟨g, 3, none⟩ d).setCell ⟨g, 4, none⟩ e).setCell ⟨g, 5, none⟩ f).setCell ⟨g, 6, none⟩ h
theorem st7_blk {W : World} {g : Nat} {te : TypeId} {v0 v1 v2 v3 v4 v5 v6 a b c d e f h : Value} (hk : Blk W g te #[v0, v1, v2, v3, v4, v5, v6]) : Blk (st7 W g a b c d e f h) g te #[a, b, c, d, e, f, h] := by
  have k0 : Blk (W.setCell ⟨g, 0, none⟩ a) g te #[a, v1, v2, v3, v4, v5, v6] := blk_set hk 0 a
  have k1 : Blk ((W.setCell ⟨g, 0, none⟩ a).setCell ⟨g, 1, none⟩ b) g te #[a, b, v2, v3, v4, v5, v6] := blk_set k0 1 b
  have k2 : Blk (((W.setCell ⟨g, 0, none⟩ a).setCell ⟨g, 1, none⟩ b).setCell ⟨g, 2, none⟩ c) g te #[a, b, c, v3, v4, v5, v6] := blk_set k1 2 c
  have k3 : Blk ((((W.setCell ⟨g, 0, none⟩ a).setCell ⟨g, 1, none⟩ b).setCell ⟨g, 2, none⟩ c).setCell ⟨g, 3, none⟩ d) g te #[a, b, c, d, v4, v5, v6] := blk_set k2 3 d
  have k4 : Blk (((((W.setCell ⟨g, 0, none⟩ a).setCell ⟨g, 1, none⟩ b).setCell ⟨g, 2, none⟩ c).setCell ⟨g, 3, none⟩ d).setCell ⟨g, 4, none⟩ e) g te #[a, b, c, d, e, v5, v6] := blk_set k3 4 e
  have k5 : Blk ((((((W.setCell ⟨g, 0, none⟩ a).setCell ⟨g, 1, none⟩ b).setCell ⟨g, 2, none⟩ c).setCell ⟨g, 3, none⟩ d).setCell ⟨g, 4, none⟩ e).setCell ⟨g, 5, none⟩ f) g te #[a, b, c, d, e, f, v6] := blk_set k4 5 f
  have k6 : Blk (((((((W.setCell ⟨g, 0, none⟩ a).setCell ⟨g, 1, none⟩ b).setCell ⟨g, 2, none⟩ c).setCell ⟨g, 3, none⟩ d).setCell ⟨g, 4, none⟩ e).setCell ⟨g, 5, none⟩ f).setCell ⟨g, 6, none⟩ h) g te #[a, b, c, d, e, f, h] := blk_set k5 6 h
  exact k6
theorem st7_below {B : Nat} {w0 W : World} {g : Nat} {a b c d e f h : Value} (hb : Below B w0 W) (hg : B ≤ g) : Below B w0 (st7 W g a b c d e f h) :=
  ((((((hb.setCell (p := ⟨g, 0, none⟩) hg a).setCell (p := ⟨g, 1, none⟩) hg b).setCell (p := ⟨g, 2, none⟩) hg c).setCell (p := ⟨g, 3, none⟩) hg d).setCell (p := ⟨g, 4, none⟩) hg e).setCell (p := ⟨g, 5, none⟩) hg f).setCell (p := ⟨g, 6, none⟩) hg h
end St7
namespace Rul6
open Go.ChangeShapes Go.WideShapes Go.ChangeAt Go.RowKit Mem Tre Ref3 Law3 Fix3 Opn Bnd Flo Cfg CrdB CrdC Rr4 Fr4 St7
attribute [local go_sem] run_store_float
theorem own_blk_ne {w : World} {base : Nat} {e te : TypeId} {size n g : Nat} {v : Value} {xs : List Value} {cs : Array Value} (h : w.ownsRow base e size v n xs) (hk : Blk w g te cs) (hne : e ≠ te) : v.ownBlock ≠ some g := by
  rcases h.2 with ⟨rfl, _⟩ | ⟨k, cap, cur, rfl, _, hh, _⟩
  · simp [Value.ownBlock]
  · intro he
    have : k = g := by simpa [Value.ownBlock] using he
    subst this
    unfold Blk at hk
    rw [hh] at hk
    injection hk with hk
    injection hk with _ q
    exact hne q
theorem own_set1 {w : World} {base : Nat} {e te : TypeId} {size n g : Nat} {v : Value} {xs : List Value} {cs : Array Value} (h : w.ownsRow base e size v n xs) (hk : Blk w g te cs) (hne : e ≠ te) (j : Nat) (x : Value) : (w.setCell ⟨g, j, none⟩ x).ownsRow base e size v n xs := by
  have hnb := own_blk_ne h hk hne
  refine ⟨h.1, ?_⟩
  rcases h.2 with h2 | ⟨k, cap, cur, hv, hg, hh, r⟩
  · exact .inl h2
  · refine .inr ⟨k, cap, cur, hv, hg, ?_, r⟩
    have hkg : k ≠ g := by rintro rfl; rw [hv] at hnb; simp [Value.ownBlock] at hnb
    rw [Below.heap_setCell _ _ _ _ (by exact hkg)]
    exact hh
theorem own_st7 {W : World} {g base : Nat} {e te : TypeId} {size n : Nat} {v : Value} {xs : List Value} {v0 v1 v2 v3 v4 v5 v6 qa qb qc qd qe qf qh : Value} (h : W.ownsRow base e size v n xs) (hk : Blk W g te #[v0, v1, v2, v3, v4, v5, v6]) (hne : e ≠ te) : (st7 W g qa qb qc qd qe qf qh).ownsRow base e size v n xs := by
  have o0 := own_set1 h hk hne 0 qa
  have k0 : Blk (W.setCell ⟨g, 0, none⟩ qa) g te _ := blk_set hk 0 qa
  have o1 := own_set1 o0 k0 hne 1 qb
  have k1 := blk_set k0 1 qb
  have o2 := own_set1 o1 k1 hne 2 qc
  have k2 := blk_set k1 2 qc
  have o3 := own_set1 o2 k2 hne 3 qd
  have k3 := blk_set k2 3 qd
  have o4 := own_set1 o3 k3 hne 4 qe
  have k4 := blk_set k3 4 qe
  have o5 := own_set1 o4 k4 hne 5 qf
  have k5 := blk_set k4 5 qf
  exact own_set1 o5 k5 hne 6 qh
theorem own_grown {w w' : World} {base g : Nat} {e te : TypeId} {size n : Nat} {v : Value} {xs : List Value} {cs : Array Value} (h : w.ownsRow base e size v n xs) (hk : Blk w g te cs) (hne : e ≠ te) (hg : w.grownBy w' (some g)) : w'.ownsRow base e size v n xs :=
  World.ownsRow.kept h hg (.inr (own_blk_ne h hk hne))
theorem int_info6 : (Tryd.prog.info? 3).map (fun i => (i.zero, i.size, i.bytes)) = some (some (.int .i64 0), 1, 8) := by kernel_rfl
theorem below_up {w W : World} (h : Below w.heap.size w W) (o : Obj) : Below w.heap.size w (W.alloc o) := h.alloc h.size o
theorem blk_at {w : World} {te : TypeId} {cs : Array Value} {g : Nat} (h : g = w.heap.size) : Blk (w.alloc (.cells cs te)) g te cs := by subst h; exact Blk.fresh _ _ _
theorem st7_far {W : World} {g gZ : Nat} {te : TypeId} {cs : Array Value} {a b c d e f h : Value} (hk : Blk W g te cs) (hne : g ≠ gZ) : Blk (st7 W gZ a b c d e f h) g te cs :=
  blk_far (blk_far (blk_far (blk_far (blk_far (blk_far (blk_far hk hne a) hne b) hne c) hne d) hne e) hne f) hne h
theorem z_of {W : World} {g : Nat} {te : TypeId} {v0 v1 v2 v3 v4 v5 v6 : Value} (hk : Blk W g te #[v0, v1, v2, v3, v4, v5, v6]) :
    W.cell? ⟨g, 0, none⟩ = some v0 ∧ W.cell? ⟨g, 1, none⟩ = some v1 ∧ W.cell? ⟨g, 2, none⟩ = some v2 ∧ W.cell? ⟨g, 3, none⟩ = some v3 ∧ W.cell? ⟨g, 4, none⟩ = some v4 ∧ W.cell? ⟨g, 5, none⟩ = some v5 ∧ W.cell? ⟨g, 6, none⟩ = some v6 ∧
    W.frozen? ⟨g, 0, none⟩ = false ∧ W.frozen? ⟨g, 1, none⟩ = false ∧ W.frozen? ⟨g, 2, none⟩ = false ∧ W.frozen? ⟨g, 3, none⟩ = false ∧ W.frozen? ⟨g, 4, none⟩ = false ∧ W.frozen? ⟨g, 5, none⟩ = false ∧ W.frozen? ⟨g, 6, none⟩ = false :=
  ⟨hk.cell 0, hk.cell 1, hk.cell 2, hk.cell 3, hk.cell 4, hk.cell 5, hk.cell 6, hk.thaw 0, hk.thaw 1, hk.thaw 2, hk.thaw 3, hk.thaw 4, hk.thaw 5, hk.thaw 6⟩
end Rul6
namespace Fcf
open Go.RowKit Mem Tre Ref3 Law3 Fix3 Bnd Flo Cfg Crd CrdB CrdC Cpl
def modF (x m : Int) : Int := wrap64 ((IntKind.u64.wrap x).tmod m)
def fixA (n : Nat) (ac : List Int) : List Int := if ac.length = 0 then [(n : Int) - 1] else (ac.take 5).map fun a => modF a n
def oneS (p : Int × Int × Int × Nat) : Int × Int × Int × Nat :=
  (1 + modF p.1 1099511627776, 1 + modF p.2.1 1099511627776, if p.2.2.1 < 0 then 9223372036854775807 else p.2.2.1, if rightB p.2.2.2 = true then p.2.2.2 else 4602678819172646912)
end Fcf
namespace Rul7
open Go.ChangeShapes Go.WideShapes Go.ChangeAt Go.RowKit Mem Tre Ref3 Law3 Fix3 Opn Bnd Flo Cfg CrdB CrdC Rr4 Fr4 St7 Rul6 Fcf Fown Lat
attribute [local go_sem] run_store_float
def Lq (sh wi ra ta : Int) (A B C : Option Addr) (c d f : Nat) (nd : List (Int × Int)) (ac : List Int) (sy : List (Int × Int × Int × Nat)) (w : World) (gO k j : Nat) (A1 A3 Ak : Option Addr) (c1 c3 ck : Nat) (wx : World) : Prop :=
  Hid (Blk wx gO 35 #[.int .i64 (1 + modF sh 3), .int .i64 (modF wi 4), .int .i64 (1 + modF ra 6), .int .i64 (1 + modF ta 8), .slice A1 (fixF nd).length c1, .slice A3 k c3, .slice Ak j ck]) ∧ Hid (Blk wx w.heap.size 35 #[.int .i64 sh, .int .i64 wi, .int .i64 ra, .int .i64 ta, .slice A nd.length c, .slice B ac.length d, .slice C sy.length f]) ∧ Hid (Blk wx (w.heap.size + 1) 35 #[.int .i64 0, .int .i64 0, .int .i64 0, .int .i64 0, .slice none 0 0, .slice none 0 0, .slice none 0 0]) ∧ Hid (wx.ownsRow (w.heap.size + 2) 61 2 (.slice A1 (fixF nd).length c1) (fixF nd).length (nds (fixF nd))) ∧ Hid (wx.ownsRow (w.heap.size + 2) 3 1 (.slice A3 k c3) k (ints (fixA (fixF nd).length ac))) ∧ Hid (wx.ownsRow (w.heap.size + 2) 64 4 (.slice Ak j ck) j (smbs ((sy.take j).map oneS))) ∧ Hid (Below w.heap.size w wx)
theorem Lq.alloc {sh wi ra ta : Int} {A B C : Option Addr} {c d f : Nat} {nd : List (Int × Int)} {ac : List Int} {sy : List (Int × Int × Int × Nat)} {w : World} {gO k j : Nat} {A1 A3 Ak : Option Addr} {c1 c3 ck : Nat} {wx : World} (h : Lq sh wi ra ta A B C c d f nd ac sy w gO k j A1 A3 Ak c1 c3 ck wx) (o : Obj) : Lq sh wi ra ta A B C c d f nd ac sy w gO k j A1 A3 Ak c1 c3 ck (wx.alloc o) :=
  ⟨h.1.out.alloc _, h.2.1.out.alloc _, h.2.2.1.out.alloc _, World.ownsRow.alloc h.2.2.2.1.out _, World.ownsRow.alloc h.2.2.2.2.1.out _, World.ownsRow.alloc h.2.2.2.2.2.1.out _, below_up h.2.2.2.2.2.2.out _⟩
end Rul7
namespace Tl5
open Go.ChangeShapes Go.WideShapes Go.ChangeAt Go.RowKit Mem Tre Ref3 Law3 Fix3 Opn Bnd Flo Cfg CrdB CrdC Rr4 Fr4 Rul1 Rul3 St7 Rul6 Fcf Fown Rul7
attribute [local go_sem] run_store_float
structure CfV (W : World) (g : Nat) (te : TypeId) (A B C : Option Addr) (sh wi ra ta : Int) (n m k c d f : Nat) (nd : List (Int × Int)) (ac : List Int) (sy : List (Int × Int × Int × Nat)) : Prop where
  blk : Blk W g te #[.int .i64 sh, .int .i64 wi, .int .i64 ra, .int .i64 ta, .slice A n c, .slice B m d, .slice C k f]
  nds : Nds W W.heap.size A nd
  ris : Ris W W.heap.size B ac
  smb : Smb W W.heap.size C sy
theorem CfV.below {W : World} {g : Nat} {te : TypeId} {A B C : Option Addr} {sh wi ra ta : Int} {n m k c d f : Nat} {nd : List (Int × Int)} {ac : List Int} {sy : List (Int × Int × Int × Nat)} {W' : World} (h : CfV W g te A B C sh wi ra ta n m k c d f nd ac sy) (hb : Below W.heap.size W W') : CfV W' g te A B C sh wi ra ta n m k c d f nd ac sy :=
  ⟨Blk.below' h.blk hb, Rd.below' h.nds hb hb.size, Rd.below' h.ris hb hb.size, Rd.below' h.smb hb hb.size⟩
theorem CfV.alloc {W : World} {g : Nat} {te : TypeId} {A B C : Option Addr} {sh wi ra ta : Int} {n m k c d f : Nat} {nd : List (Int × Int)} {ac : List Int} {sy : List (Int × Int × Int × Nat)} (h : CfV W g te A B C sh wi ra ta n m k c d f nd ac sy) (o : Obj) : CfV (W.alloc o) g te A B C sh wi ra ta n m k c d f nd ac sy :=
  h.below ((Below.refl _ _).alloc (Nat.le_refl _) _)
theorem CfV.new {W : World} {te : TypeId} {A B C : Option Addr} {sh wi ra ta : Int} {n m k c d f : Nat} {nd : List (Int × Int)} {ac : List Int} {sy : List (Int × Int × Int × Nat)} (h1 : Nds W W.heap.size A nd) (h2 : Ris W W.heap.size B ac) (h3 : Smb W W.heap.size C sy) : CfV (W.alloc (.cells #[.int .i64 sh, .int .i64 wi, .int .i64 ra, .int .i64 ta, .slice A n c, .slice B m d, .slice C k f] te)) W.heap.size te A B C sh wi ra ta n m k c d f nd ac sy :=
  ⟨Blk.fresh _ _ _, Rd.below' h1 ((Below.refl _ _).alloc (Nat.le_refl _) _) (by simp), Rd.below' h2 ((Below.refl _ _).alloc (Nat.le_refl _) _) (by simp), Rd.below' h3 ((Below.refl _ _).alloc (Nat.le_refl _) _) (by simp)⟩
end Tl5
namespace Few5
open Go.RowKit Mem Tre Ref3 Law3 Fix3 Cfg Rul4
theorem front {w : World} {B : Nat} {A : Option Addr} {xs ys : List Value} (h : Rd w B A (xs ++ ys)) : Rd w B A xs := by
  rcases h with h | ⟨b, o, hA, hb, hc⟩
  · exact .inl (List.append_eq_nil_iff.1 h).1
  · exact .inr ⟨b, o, hA, hb, fun i v hi => hc i v (by rw [List.getElem?_append_left (List.getElem?_eq_some_iff.1 hi).1]; exact hi)⟩
end Few5
end Go.Proofs.YtmjkhejfhpgiiaaDoor

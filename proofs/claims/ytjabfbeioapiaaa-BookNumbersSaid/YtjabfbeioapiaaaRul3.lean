/- The contracts of rules.Look, rules.Shard and of their references, and of the law's Order. Condition: the Config lies in memory, the numbers are of 64 bits. -/
import Derived.Test.YtjabfbeioapiaaaRul1
import Derived.Deep.DeepCutAuto
namespace Go.Proofs.Ytjabfbeioapiaaa.Rul3
set_option maxRecDepth 100000
open Go.ChangeShapes Go.WideShapes Go.ChangeAt Go.RowKit Mem Tre Ref3 Law3 Fix3 Opn Bnd Flo Cfg Rul1
set_option linter.unusedVariables false
attribute [local go_sem] run_store_float

section
variable {ac : List Int} {sy : List (Int × Int × Int × Nat)} {a s p q n t : Int}
theorem lok_1 (h : p < 1 ∨ q < 1 ∨ n < 0 ∨ t < 0) : lokF ac sy a s p q n t = (1, 0) := by unfold lokF; rw [if_pos h]
theorem lok_3 (h : ¬ (p < 1 ∨ q < 1 ∨ n < 0 ∨ t < 0)) (h1 : inR ac.length a = false) : lokF ac sy a s p q n t = (3, 0) := by unfold lokF; rw [if_neg h, if_pos h1]
theorem lok_4 (h : ¬ (p < 1 ∨ q < 1 ∨ n < 0 ∨ t < 0)) (h1 : inR ac.length a = true) (h2 : inR sy.length s = false) : lokF ac sy a s p q n t = (4, 0) := by
  unfold lokF; rw [if_neg h, if_neg (by rw [h1]; decide), if_pos h2]
theorem lok_5 (h : ¬ (p < 1 ∨ q < 1 ∨ n < 0 ∨ t < 0)) (h1 : inR ac.length a = true) (h2 : inR sy.length s = true) (h3 : sQ sy s.toNat < q) : lokF ac sy a s p q n t = (5, 0) := by
  unfold lokF; rw [if_neg h, if_neg (by rw [h1]; decide), if_neg (by rw [h2]; decide), if_pos h3]
theorem lok_6 (h : ¬ (p < 1 ∨ q < 1 ∨ n < 0 ∨ t < 0)) (h1 : inR ac.length a = true) (h2 : inR sy.length s = true) (h3 : ¬ sQ sy s.toNat < q) (h4 : Fix.noB p q = false) : lokF ac sy a s p q n t = (6, 0) := by
  rw [Fix.noB_in (by omega) (by omega)] at h4
  unfold lokF; rw [if_neg h, if_neg (by rw [h1]; decide), if_neg (by rw [h2]; decide), if_neg h3, if_pos (by rw [h4]; decide)]
theorem no_prod (h : ¬ (p < 1 ∨ q < 1 ∨ n < 0 ∨ t < 0)) (h4 : Fix.noB p q = true) : Fix.noV p q = p * q := by
  rw [Fix.noV_in (by omega) (by omega)]
  rw [Fix.noB_in (by omega) (by omega)] at h4
  unfold Fix.numV; rw [h4]; rfl
theorem lok_7 (h : ¬ (p < 1 ∨ q < 1 ∨ n < 0 ∨ t < 0)) (h1 : inR ac.length a = true) (h2 : inR sy.length s = true) (h3 : ¬ sQ sy s.toNat < q) (h4 : Fix.noB p q = true) (h5 : sW sy s.toNat < Fix.noV p q) : lokF ac sy a s p q n t = (7, 0) := by
  rw [no_prod h h4] at h5
  rw [Fix.noB_in (by omega) (by omega)] at h4
  unfold lokF; rw [if_neg h, if_neg (by rw [h1]; decide), if_neg (by rw [h2]; decide), if_neg h3, if_neg (by rw [h4]; decide), if_pos h5]
theorem lok_8 (h : ¬ (p < 1 ∨ q < 1 ∨ n < 0 ∨ t < 0)) (h1 : inR ac.length a = true) (h2 : inR sy.length s = true) (h3 : ¬ sQ sy s.toNat < q) (h4 : Fix.noB p q = true) (h5 : ¬ sW sy s.toNat < Fix.noV p q) (h6 : witB (sP sy s.toNat) p (sB sy s.toNat) = false) : lokF ac sy a s p q n t = (8, 0) := by
  rw [no_prod h h4] at h5
  rw [Fix.noB_in (by omega) (by omega)] at h4
  unfold lokF; rw [if_neg h, if_neg (by rw [h1]; decide), if_neg (by rw [h2]; decide), if_neg h3, if_neg (by rw [h4]; decide), if_neg h5, if_pos h6]
theorem lok_0 (h : ¬ (p < 1 ∨ q < 1 ∨ n < 0 ∨ t < 0)) (h1 : inR ac.length a = true) (h2 : inR sy.length s = true) (h3 : ¬ sQ sy s.toNat < q) (h4 : Fix.noB p q = true) (h5 : ¬ sW sy s.toNat < Fix.noV p q) (h6 : witB (sP sy s.toNat) p (sB sy s.toNat) = true) : lokF ac sy a s p q n t = (0, Fix.noV p q) := by
  rw [no_prod h h4] at h5 ⊢
  rw [Fix.noB_in (by omega) (by omega)] at h4
  unfold lokF; rw [if_neg h, if_neg (by rw [h1]; decide), if_neg (by rw [h2]; decide), if_neg h3, if_neg (by rw [h4]; decide), if_neg h5, if_neg (by rw [h6]; decide)]
end

theorem sha_n {sh : Int} {n : Nat} {a : Int} (h : sh < 1 ∨ inR n a = false) : shaF sh n a = -1 := by unfold shaF; rw [if_pos h]
theorem sha_y {sh : Int} {n : Nat} {a : Int} (h : 1 ≤ sh) (h' : inR n a = true) : shaF sh n a = a % sh := by
  unfold shaF; rw [if_neg]; rw [h']; intro e; rcases e with e | e
  · omega
  · exact absurd e (by decide)
def MadeO (a s : Int) (x : Bool) (p q n t : Int) (w : World) (e : Ending) (w' : World) : Prop := e = .returned (.agg #[.int .i64 a, .int .i64 s, .bool x, .int .i64 p, .int .i64 q, .int .i64 n, .int .i64 t]) ∧ Below w.heap.size w w'
theorem order_any (a s : Int) (x : Bool) (p q n t : Int) (w : World) :
    Calls Try.prog 8 #[.agg #[.int .i64 a, .int .i64 s, .bool x, .int .i64 p, .int .i64 q, .int .i64 n, .int .i64 t]] w (MadeO a s x p q n t w) := by
  go_enter Try.func8, Try.ntmps8
  go_wp2_with fail
  exact bodyPost_ret (v := .agg #[.int .i64 a, .int .i64 s, .bool x, .int .i64 p, .int .i64 q, .int .i64 n, .int .i64 t]) (by simp [results, Try.results8, go_sem]) rfl ⟨rfl, ((Below.refl _ _).alloc (Nat.le_refl _) _).alloc (by simp) _⟩
end Go.Proofs.Ytjabfbeioapiaaa.Rul3

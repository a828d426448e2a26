/- The contracts of the law's helpers over lists of pairs and of numbers. Condition: the lists lie in memory, their numbers are of 64 bits. -/
import Derived.Test.YtjabfbeioapiaaaRef3
import Derived.RegionTactic
import Derived.Deep.RegionLaw
import Derived.BigQuiet
import Derived.Deep.QuietTactic
namespace Go.Proofs.Ytjabfbeioapiaaa.Law3
set_option maxRecDepth 100000
open Go.ChangeShapes Go.WideShapes Go.ChangeAt Go.RowKit Mem Tre Ref3
set_option linter.unusedVariables false

theorem node_info : (Try.prog.info? 84).map (fun i => (i.zero, i.size, i.bytes)) = some (some (.agg #[.int .i64 0, .int .i64 0]), 2, 16) := by kernel_rfl
theorem rnode_info : (Try.prog.info? 82).map (fun i => (i.zero, i.size, i.bytes)) = some (some (.agg #[.int .i64 0, .int .i64 0]), 2, 16) := by kernel_rfl

/-- a list of pairs in new memory -/
def MadeNds (l : List (Int × Int)) (w : World) (e : Ending) (w' : World) : Prop := ∃ A c, e = .returned (.slice A l.length c) ∧ Nds w' w'.heap.size A l ∧ Below w.heap.size w w'
theorem madeNds_mk {xs ys : List (Int × Int)} {A : Option Addr} {c : Nat} {w w' : World} (h : ys = xs) (hr : Nds w' w'.heap.size A xs) (hb : Below w.heap.size w w') : MadeNds ys w (.returned (.slice A xs.length c)) w' := by
  subst h; exact ⟨A, c, rfl, hr, hb⟩
theorem take_snoc {l : List (Int × Int)} {k : Nat} (h : k < l.length) : l.take (k + 1) = l.take k ++ [(nP l k, nC l k)] := by
  have e : l[k] = (nP l k, nC l k) := by simp [nP, nC, h]
  rw [List.take_succ_eq_append_getElem h, e]

set_option maxHeartbeats 1000000 in
theorem to_any (A : Option Addr) (c : Nat) (l : List (Int × Int)) (w : World) (hl : Hid (Nds w w.heap.size A l)) (hw : Hid (WfN l)) (hmax : (l.length : Int) ≤ 1000000) :
    Calls Try.prog 16 #[.slice A l.length c] w (MadeNds l w) := by
  obtain ⟨i0, hi, hz0, hz1, hz2⟩ := info_parts node_info
  go_enter Try.func16, Try.ntmps16
  go_wp2
  go_loopg [3, 4] l.length (fun g s3 s4 w' => ∃ (k : Nat) (A' : Option Addr) (c' : Nat), k + g = l.length ∧ s4 = .int .i64 k ∧ s3 = .slice A' k c' ∧ Hid (w'.ownsRow w.heap.size 84 2 (.slice A' k c') k (nds (l.take k))) ∧ Below w.heap.size w w')
  case atStart => exact ⟨0, none, 0, by omega, rfl, rfl, World.ownsRow_nil _ _ _ _, Below.refl _ _⟩
  case round =>
    obtain ⟨k, A', c', hk, rfl, rfl, hown, hbel⟩ := hrel
    by_cases hlt : (k : Int) < (l.length : Int)
    · obtain ⟨g, rfl⟩ : ∃ g, gk = g + 1 := ⟨gk - 1, by omega⟩
      obtain ⟨b, o, rfl, hb, hc⟩ := Nds.at hl.out (by omega)
      have hc0 : wr.cell? ⟨b, o + k * 2, none⟩ = some (.int .i64 (nP l k)) := (hbel.cell (p := ⟨b, o + k * 2, none⟩) hb).trans (hc k (by omega)).1
      have hc1 : wr.cell? ⟨b, o + k * 2 + 1, none⟩ = some (.int .i64 (nC l k)) := (hbel.cell (p := ⟨b, o + k * 2 + 1, none⟩) hb).trans (hc k (by omega)).2
      clear hc
      go_wp2_with fail
      have hpre : Hid (nds (l.take (k + 1)) = nds (l.take k) ++ [.int .i64 (nP l k), .int .i64 (nC l k)]) := by show _ = _; rw [take_snoc (by omega), nds_snoc]
      go_region_law ((refine step_app1 (own_drew hown) (below_drew hbel) rfl _ _ _ rfl i0 (.agg #[.int .i64 0, .int .i64 0]) 16 Try.underlying29 hi hz0 hz1 hz2 rfl (by decide) rfl rfl rfl [.int .i64 (nP l k), .int .i64 (nC l k)] rfl rfl (by simp [Value.oneCell']) (by unfold maxLen; omega) (by omega) (Nat.le_refl _) hbel.size hbel.size ?_; intro A1 c1 w1 hown1 hbel1 hsz1))
      all_goals
        go_wp2_with fail
        go_roundg g
        case measure => omega
        case rel => exact ⟨k + 1, A1, c1, by omega, by go_num, rfl, by rw [hpre.out]; exact hown1, hbel1⟩
    · obtain rfl : k = l.length := by omega
      have hris : Hid (Nds wr wr.heap.size A' l) := by
        have := Rd.of_own hown.out
        rwa [List.take_length] at this
      go_wp2_with fail
      go_ret
      exact madeNds_mk rfl hris.out hbel

theorem eqB {a b : Int} {x : Bool} (h : (a = b) ↔ x = true) : (a == b) = x := by
  cases x <;> simp_all
def eqI (xs ys : List Int) : Bool := decide (xs = ys)
theorem eqI_len {xs ys : List Int} (h : ¬ xs.length = ys.length) : eqI xs ys = false := by unfold eqI; simp; intro e; exact h (by rw [e])
theorem eqI_at {xs ys : List Int} {i : Nat} (h : ¬ gI xs i = gI ys i) : eqI xs ys = false := by unfold eqI; simp; intro e; exact h (by rw [e])
theorem eqI_all {xs ys : List Int} (hl : xs.length = ys.length) (h : ∀ i, i < xs.length → gI xs i = gI ys i) : eqI xs ys = true := by
  unfold eqI
  simp only [decide_eq_true_eq]
  refine List.ext_getElem hl fun i h1 h2 => ?_
  have := h i h1
  simpa [gI, h1, h2] using this
theorem eqI_refl (xs : List Int) : eqI xs xs = true := by unfold eqI; simp
def MadeB (b : Bool) (w : World) (e : Ending) (w' : World) : Prop := e = .returned (.bool b) ∧ Below w.heap.size w w'
theorem madeB_mk {b b' : Bool} {w w' : World} (h : b' = b) (hb : Below w.heap.size w w') : MadeB b' w (.returned (.bool b)) w' := by subst h; exact ⟨rfl, hb⟩

end Go.Proofs.Ytjabfbeioapiaaa.Law3

/- The contracts of package credit: each call answers as the plain functions over lists say, and makes memory of its own alone. Condition: the State lies in memory, its numbers are of 64 bits. -/
import Derived.Test.YtjabfbeioapiaaaLaw3
import Derived.WalkSpells
import Derived.Deep.RegionWith
import Derived.Deep.RegionLaw
import Derived.Lib.LazyBuf
namespace Go.Proofs.Ytjabfbeioapiaaa.Crd
set_option maxRecDepth 100000
open Go.ChangeShapes Go.WideShapes Go.ChangeAt Go.RowKit Mem Tre Ref3 Law3
set_option linter.unusedVariables false

theorem i64_info : (Try.prog.info? 2).map (fun i => (i.zero, i.size, i.bytes)) = some (some (.int .i64 0), 1, 8) := by kernel_rfl

/-- a row of the call's own, in blocks from base on -/
def OwnN (base : Nat) (w : World) (A : Option Addr) (c : Nat) (l : List (Int × Int)) : Prop := w.ownsRow base 84 2 (.slice A l.length c) l.length (nds l)
def OwnI (base : Nat) (w : World) (A : Option Addr) (c : Nat) (u : List Int) : Prop := w.ownsRow base 2 1 (.slice A u.length c) u.length (ints u)
def MadeOwnN (l : List (Int × Int)) (w : World) (e : Ending) (w' : World) : Prop := ∃ A c, e = .returned (.slice A l.length c) ∧ OwnN w.heap.size w' A c l ∧ Below w.heap.size w w'
def MadeOwnI (u : List Int) (w : World) (e : Ending) (w' : World) : Prop := ∃ A c, e = .returned (.slice A u.length c) ∧ OwnI w.heap.size w' A c u ∧ Below w.heap.size w w'

set_option maxHeartbeats 1000000 in
theorem cloneI_any (A : Option Addr) (c : Nat) (l : List Int) (w : World) (hl : Hid (Ris w w.heap.size A l)) (hmax : (l.length : Int) ≤ 1000000) :
    Calls Try.prog 31 #[.slice A l.length c] w (MadeOwnI l w) := by
  obtain ⟨i0, hi, hz0, hz1, hz2⟩ := info_parts i64_info
  have hq := fun (W : World) (n c : Nat) => Lib.run_eql_slice_nil (P := Try.prog) W 22 2 A n c 0 0 Try.underlying22
  cases A with
  | none =>
    have hl0 : l = [] := by
      rcases hl.out with h | ⟨b, o, h, _⟩
      · have := ints_len l; rw [h] at this; simp at this; exact List.eq_nil_of_length_eq_zero (by omega)
      · cases h
    subst hl0
    go_enter Try.func31, Try.ntmps31
    go_wp2_with fail
    go_ret
    exact ⟨none, 0, rfl, World.ownsRow_nil _ _ _ _, Below.refl _ _⟩
  | some ad =>
    have hl1 : Hid (Rd (w.alloc (.cells #[] 2)) w.heap.size (some ad) (ints l)) := Rd.below hl.out ((Below.refl _ _).alloc (Nat.le_refl _) _)
    have how : Hid ((w.alloc (.cells #[] 2)).ownsRow w.heap.size 2 1 (.slice (some ⟨w.heap.size, 0, none⟩) 0 0) 0 []) := own_empty (Blk.fresh w _ _) (Nat.le_refl _)
    have hb0 : Below w.heap.size w (w.alloc (.cells #[] 2)) := (Below.refl _ _).alloc (Nat.le_refl _) _
    go_enter Try.func31, Try.ntmps31
    go_wp2_with (at_builtin; go_loud (refine wpList_appR (nm := l.length) how hb0 hl1 (by simp) rfl _ _ _ rfl i0 (.int .i64 0) 8 Try.underlying22 hi hz0 hz1 hz2 rfl (by decide) rfl rfl (by rw [ints_len]; omega) (ints_one l) (by unfold maxLen; omega) (by omega) (Nat.le_refl _) (by simp) (by simp) ?_); intro A1 c1 w1 hown1 hbel1 hsz1)
    go_ret
    exact ⟨A1, c1, rfl, hown1, hbel1⟩
end Go.Proofs.Ytjabfbeioapiaaa.Crd

/- The contract of the law's fixed example of layer 3, of the reference's Fix. Condition: the list lies in memory, its numbers are of 64 bits. -/
import Derived.Test.YtjldfcoakbdfpaaLaw3
namespace Go.Proofs.Ytjldfcoakbdfpaa.Told3
open Go.ChangeShapes Go.WideShapes Go.ChangeAt Go.RowKit Mem Tre Ref3 Law3
set_option linter.unusedVariables false

def exA : List (Int × Int) := [(1, 0), (0, 0)]
def exB : List (Int × Int) := [(-1, 0), (0, 0), (1, 0)]
theorem wfA : WfN exA := by intro i hi; simp [exA] at hi; match i, hi with | 0, _ => exact ⟨⟨by decide, by decide⟩, ⟨by decide, by decide⟩⟩ | 1, _ => exact ⟨⟨by decide, by decide⟩, ⟨by decide, by decide⟩⟩
theorem wfB : WfN exB := by intro i hi; simp [exB] at hi; match i, hi with | 0, _ => exact ⟨⟨by decide, by decide⟩, ⟨by decide, by decide⟩⟩ | 1, _ => exact ⟨⟨by decide, by decide⟩, ⟨by decide, by decide⟩⟩ | 2, _ => exact ⟨⟨by decide, by decide⟩, ⟨by decide, by decide⟩⟩

set_option maxHeartbeats 1000000 in
theorem told3_any (w : World) : Calls Try.prog 12 #[] w (MadeB true w) := by
  go_enter Try.func12, Try.ntmps12
  go_wp2_with fail
  have b1 : Hid (Blk ((w.alloc (.cells #[.int .i64 (-1), .int .i64 0, .int .i64 0, .int .i64 0, .int .i64 1, .int .i64 0] 39)).alloc (.cells #[.int .i64 1, .int .i64 0, .int .i64 0, .int .i64 0] 39)) w.heap.size 39 #[.int .i64 (-1), .int .i64 0, .int .i64 0, .int .i64 0, .int .i64 1, .int .i64 0]) := (Blk.fresh _ _ _).alloc _
  have b2 : Hid (Nds ((w.alloc (.cells #[.int .i64 (-1), .int .i64 0, .int .i64 0, .int .i64 0, .int .i64 1, .int .i64 0] 39)).alloc (.cells #[.int .i64 1, .int .i64 0, .int .i64 0, .int .i64 0] 39)) ((w.alloc (.cells #[.int .i64 (-1), .int .i64 0, .int .i64 0, .int .i64 0, .int .i64 1, .int .i64 0] 39)).alloc (.cells #[.int .i64 1, .int .i64 0, .int .i64 0, .int .i64 0] 39)).heap.size (some ⟨w.heap.size + 1, 0, none⟩) exA) := by
    have := Blk.fresh (w.alloc (.cells #[.int .i64 (-1), .int .i64 0, .int .i64 0, .int .i64 0, .int .i64 1, .int .i64 0] 39)) 39 #[.int .i64 1, .int .i64 0, .int .i64 0, .int .i64 0]
    simp only [World.size_alloc] at this
    exact this.rd' rfl
  refine (check_any (some ⟨w.heap.size + 1, 0, none⟩) 2 exA _ b2.out wfA (by decide)).mono ?_
  rintro e w1 ⟨rfl, hb1⟩
  have hs1 : Below w.heap.size w w1 := (((Below.refl _ _).alloc (Nat.le_refl _) _).alloc (by simp) _).trans (hb1.mono (by simp; omega))
  have c1 : Hid (Blk w1 w.heap.size 39 #[.int .i64 (-1), .int .i64 0, .int .i64 0, .int .i64 0, .int .i64 1, .int .i64 0]) := Blk.below' b1.out hb1
  have r1 : Hid (Nds w1 w1.heap.size (some ⟨w.heap.size, 0, none⟩) exB) := Blk.rd' c1.out rfl
  clear b1 b2 hb1
  have e1 : (chk exA).1 = 16 := rfl
  have e2 : (chk exA).2 = 0 := rfl
  have e3 : (chk exB).1 = 0 := rfl
  have e4 : (chk exB).2 = -1 := rfl
  go_wp2_with fail
  refine (check_any (some ⟨w.heap.size, 0, none⟩) 3 exB _ r1.out wfB (by decide)).mono ?_
  rintro e w2 ⟨rfl, hb2⟩
  have hs2 : Below w.heap.size w w2 := hs1.trans (hb2.mono hs1.size)
  have c2 : Hid (Blk w2 w.heap.size 39 #[.int .i64 (-1), .int .i64 0, .int .i64 0, .int .i64 0, .int .i64 1, .int .i64 0]) := Blk.below' c1.out hb2
  have r2 : Hid (Nds w2 w2.heap.size (some ⟨w.heap.size, 0, none⟩) exB) := Blk.rd' c2.out rfl
  clear r1 c1 hs1 hb2
  go_wp2_with fail
  refine (path_any (some ⟨w.heap.size, 0, none⟩) 3 exB 2 _ r2.out wfB (by decide) ⟨by decide, by decide⟩).mono ?_
  rintro e w3 ⟨A3, c3, rfl, hr3, hb3⟩
  have hs3 : Below w.heap.size w w3 := hs2.trans (hb3.mono hs2.size)
  have cc3 : Hid (Blk w3 w.heap.size 39 #[.int .i64 (-1), .int .i64 0, .int .i64 0, .int .i64 0, .int .i64 1, .int .i64 0]) := Blk.below' c2.out hb3
  have e5 : pathF exB 3 2 = [2, 1, 0] := rfl
  rw [e5] at hr3 ⊢
  have HR3 := Lib.hid hr3
  clear c2 r2 hs2 hb3 hr3 e5
  go_wp2_with fail
  have q1 : Hid (Ris (w3.alloc (.cells #[.int .i64 2, .int .i64 1, .int .i64 0] 3)) (w3.alloc (.cells #[.int .i64 2, .int .i64 1, .int .i64 0] 3)).heap.size A3 [2, 1, 0]) :=
    Rd.below' HR3.out ((Below.refl _ _).alloc (Nat.le_refl _) _) (by simp)
  have q2 : Hid (Ris (w3.alloc (.cells #[.int .i64 2, .int .i64 1, .int .i64 0] 3)) (w3.alloc (.cells #[.int .i64 2, .int .i64 1, .int .i64 0] 3)).heap.size (some ⟨w3.heap.size, 0, none⟩) [2, 1, 0]) := (Blk.fresh _ _ _).rd' rfl
  have cc4 : Hid (Blk (w3.alloc (.cells #[.int .i64 2, .int .i64 1, .int .i64 0] 3)) w.heap.size 39 #[.int .i64 (-1), .int .i64 0, .int .i64 0, .int .i64 0, .int .i64 1, .int .i64 0]) := Blk.alloc cc3.out _
  have hs4 : Below w.heap.size w (w3.alloc (.cells #[.int .i64 2, .int .i64 1, .int .i64 0] 3)) := hs3.alloc hs3.size _
  refine (ints_any A3 (some ⟨w3.heap.size, 0, none⟩) c3 3 [2, 1, 0] [2, 1, 0] _ q1 q2 (by decide) (by decide)).mono ?_
  rintro e w5 ⟨rfl, hb5⟩
  have hs5 : Below w.heap.size w w5 := hs4.trans (hb5.mono hs4.size)
  have c5 : Hid (Blk w5 w.heap.size 39 #[.int .i64 (-1), .int .i64 0, .int .i64 0, .int .i64 0, .int .i64 1, .int .i64 0]) := Blk.below' cc4.out hb5
  have r5 : Hid (Nds w5 w5.heap.size (some ⟨w.heap.size, 0, none⟩) exB) := Blk.rd' c5.out rfl
  have e6 : eqI [2, 1, 0] [2, 1, 0] = true := rfl
  clear q1 q2 cc4 cc3 hs4 hb5 HR3 hs3
  go_wp2_with fail
  refine (level_any (some ⟨w.heap.size, 0, none⟩) 3 exB 2 _ r5.out wfB (by decide) ⟨by decide, by decide⟩ (by decide)).mono ?_
  rintro e w6 ⟨rfl, hb6⟩
  have hs6 : Below w.heap.size w w6 := hs5.trans (hb6.mono hs5.size)
  have e7 : ((pathF exB 3 2).length : Int) - 1 = 2 := rfl
  rw [e7]
  clear e7
  go_wp2_with fail
  go_ret
  exact madeB_mk rfl hs6
end Go.Proofs.Ytjldfcoakbdfpaa.Told3

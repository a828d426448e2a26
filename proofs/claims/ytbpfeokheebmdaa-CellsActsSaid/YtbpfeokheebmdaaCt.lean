/- The contract of the reference's New, and of told: it answers true. Condition: at most 65536 of each. -/
import Derived.Test.YtbpfeokheebmdaaCz
import Derived.Test.YtbpfeokheebmdaaCr
namespace Go.Proofs.Ytbpfeokheebmdaa.Ct
set_option maxRecDepth 100000
open Go.ChangeShapes Go.WideShapes Go.ChangeAt Go.RowKit Mem Cel Cm Cn Cx Cy Cz Cr
set_option linter.unusedVariables false
def vRef (g : Nat) : Value := .pointer (some ⟨g, 0, none⟩)
theorem half_set (n k : Nat) (y : Int) (h : k < n) : (half n k y).set k y = half n (k + 1) y := by
  unfold half
  rw [List.set_append_right _ _ (by simp), List.length_replicate, Nat.sub_self, show n - k = (n - (k + 1)) + 1 by omega, List.replicate_succ (n := n - (k + 1)), List.set_cons_zero, List.replicate_succ' (n := k), List.append_assoc, List.singleton_append]

theorem cs_first {w : World} {n m : Nat} : Cs (((w.alloc (.cells (madeCells #[.int .i64 0] n) 2)).alloc (.cells (madeCells #[.int .i64 0] m) 3)).alloc (.cells #[.slice (some ⟨w.heap.size, 0, none⟩) n n, .slice (some ⟨w.heap.size + 1, 0, none⟩) m m, .int .i64 0] 40)).drew 40 (w.heap.size + 2) w.heap.size (w.heap.size + 1) ⟨List.replicate n 0, List.replicate m 0, 0⟩ := by
  have k1 := Blk.fresh w 2 (madeCells #[.int .i64 0] n)
  have k2 := Blk.fresh (w.alloc (.cells (madeCells #[.int .i64 0] n) 2)) 3 (madeCells #[.int .i64 0] m)
  have k3 := Blk.fresh ((w.alloc (.cells (madeCells #[.int .i64 0] n) 2)).alloc (.cells (madeCells #[.int .i64 0] m) 3)) 40 #[.slice (some ⟨w.heap.size, 0, none⟩) n n, .slice (some ⟨w.heap.size + 1, 0, none⟩) m m, .int .i64 0]
  simp only [World.size_alloc] at k2 k3
  have e1 := (k1.alloc (.cells (madeCells #[.int .i64 0] m) 3)).alloc (.cells #[.slice (some ⟨w.heap.size, 0, none⟩) n n, .slice (some ⟨w.heap.size + 1, 0, none⟩) m m, .int .i64 0] 40)
  have e2 := k2.alloc (.cells #[.slice (some ⟨w.heap.size, 0, none⟩) n n, .slice (some ⟨w.heap.size + 1, 0, none⟩) m m, .int .i64 0] 40)
  simp only [made0] at e1 e2 k3
  simp only [made0]
  exact ⟨by simp only [List.length_replicate]; exact k3, e1, e2, by simp, by simp, by simp⟩

theorem cs_second {w : World} {n m : Nat} : Cs (((w.alloc (.cells (madeCells #[.int .i64 0] m) 3)).alloc (.cells (madeCells #[.int .i64 0] n) 2)).alloc (.cells #[.slice (some ⟨w.heap.size + 1, 0, none⟩) n n, .slice (some ⟨w.heap.size, 0, none⟩) m m, .int .i64 0] 40)).drew 40 (w.heap.size + 2) (w.heap.size + 1) w.heap.size ⟨List.replicate n 0, List.replicate m 0, 0⟩ := by
  have k1 := Blk.fresh w 3 (madeCells #[.int .i64 0] m)
  have k2 := Blk.fresh (w.alloc (.cells (madeCells #[.int .i64 0] m) 3)) 2 (madeCells #[.int .i64 0] n)
  have k3 := Blk.fresh ((w.alloc (.cells (madeCells #[.int .i64 0] m) 3)).alloc (.cells (madeCells #[.int .i64 0] n) 2)) 40 #[.slice (some ⟨w.heap.size + 1, 0, none⟩) n n, .slice (some ⟨w.heap.size, 0, none⟩) m m, .int .i64 0]
  simp only [World.size_alloc] at k2 k3
  have e1 := (k1.alloc (.cells (madeCells #[.int .i64 0] n) 2)).alloc (.cells #[.slice (some ⟨w.heap.size + 1, 0, none⟩) n n, .slice (some ⟨w.heap.size, 0, none⟩) m m, .int .i64 0] 40)
  have e2 := k2.alloc (.cells #[.slice (some ⟨w.heap.size + 1, 0, none⟩) n n, .slice (some ⟨w.heap.size, 0, none⟩) m m, .int .i64 0] 40)
  simp only [made0] at e1 e2 k3
  simp only [made0]
  exact ⟨by simp only [List.length_replicate]; exact k3, e2, e1, by simp, by simp, by simp⟩

set_option maxHeartbeats 4000000 in
theorem rnew_any (n m : Nat) (w : World) (hn : n ≤ 65536) (hm : m ≤ 65536) :
    Calls Try.prog 7 #[.int .i64 n, .int .i64 m] w (MadeNew n m vRef 40 w) := by
  have mk1 : ∀ wx, (Instr.makeSlice 37 (.int .i64 (n : Int)) (.int .i64 (n : Int))).run Try.prog wx = .ok (.slice (some ⟨wx.heap.size, 0, none⟩) n n) (wx.alloc (.cells (madeCells #[.int .i64 0] n) 2)) := fun wx =>
    Go.run_make_row' 37 2 (.int .i64 0) 8 Try.underlying37 i64_info rfl .i64 .i64 n (by omega) (by omega) wx
  have mk2 : ∀ wx, (Instr.makeSlice 38 (.int .i64 (m : Int)) (.int .i64 (m : Int))).run Try.prog wx = .ok (.slice (some ⟨wx.heap.size, 0, none⟩) m m) (wx.alloc (.cells (madeCells #[.int .i64 0] m) 3)) := fun wx =>
    Go.run_make_row' 38 3 (.int .i64 0) 8 Try.underlying38 int_info rfl .i64 .i64 m (by omega) (by omega) wx
  go_enter Try.func7, Try.ntmps7
  go_upto_region 1 with fail
  go_region
  · have hC : Hid (Cs (((w.alloc (.cells (madeCells #[.int .i64 0] n) 2)).alloc (.cells (madeCells #[.int .i64 0] m) 3)).alloc (.cells #[.slice (some ⟨w.heap.size, 0, none⟩) n n, .slice (some ⟨w.heap.size + 1, 0, none⟩) m m, .int .i64 0] 40)).drew 40 (w.heap.size + 2) (w.heap.size) (w.heap.size + 1) ⟨List.replicate n 0, List.replicate m 0, 0⟩) := cs_first
    have hB : Below w.heap.size w (((w.alloc (.cells (madeCells #[.int .i64 0] n) 2)).alloc (.cells (madeCells #[.int .i64 0] m) 3)).alloc (.cells #[.slice (some ⟨w.heap.size, 0, none⟩) n n, .slice (some ⟨w.heap.size + 1, 0, none⟩) m m, .int .i64 0] 40)).drew := ((((Below.refl _ _).alloc (Nat.le_refl _) _).alloc (by simp) _).alloc (by simp; omega) _).drew
    clear mk1 mk2
    go_wp2_with fail
    generalize (((w.alloc (.cells (madeCells #[.int .i64 0] n) 2)).alloc (.cells (madeCells #[.int .i64 0] m) 3)).alloc (.cells #[.slice (some ⟨w.heap.size, 0, none⟩) n n, .slice (some ⟨w.heap.size + 1, 0, none⟩) m m, .int .i64 0] 40)).drew = wN at hC hB ⊢
    go_loopg [6] m (fun q s6 w' => ∃ k : Nat, k + q = m ∧ s6 = .int .i64 k ∧ Hid (Cs w' 40 (w.heap.size + 2) (w.heap.size) (w.heap.size + 1) ⟨List.replicate n 0, half m k (-1), 0⟩) ∧ Below w.heap.size w w')
    case atStart => exact ⟨0, by omega, rfl, by rw [half0]; exact hC, hB⟩
    case round =>
      obtain ⟨k, hk, rfl, hcs, hbr⟩ := hrel
      by_cases hlt : k < m
      · obtain ⟨q, rfl⟩ : ∃ q, gk = q + 1 := ⟨gk - 1, by omega⟩
        have hlen : (half m k (-1)).length = m := half_len m k (-1) (by omega)
        have c1 : wr.cell? ⟨(w.heap.size + 2), 1, none⟩ = some (.slice (some ⟨(w.heap.size + 1), 0, none⟩) m m) := by
          have := hcs.out.c.cell 1
          simpa [hlen] using this
        have c2 : wr.cell? ⟨(w.heap.size + 1), k, none⟩ = some (.int .i64 (gI (half m k (-1)) k)) := blk_ints_cell hcs.out.ch (by rw [hlen]; exact hlt)
        have z2 : wr.frozen? ⟨(w.heap.size + 1), k, none⟩ = false := hcs.out.ch.thaw k
        have hn2 : Hid (Cs (wr.setCell ⟨(w.heap.size + 1), k, none⟩ (.int .i64 (-1))) 40 (w.heap.size + 2) (w.heap.size) (w.heap.size + 1) ⟨List.replicate n 0, half m (k + 1) (-1), 0⟩) := by
          have := hcs.out.setH k (-1)
          simp only [half_set m k (-1) hlt] at this
          exact this
        have hb2 : Below w.heap.size w (wr.setCell ⟨(w.heap.size + 1), k, none⟩ (.int .i64 (-1))) := hbr.setCell (p := ⟨(w.heap.size + 1), k, none⟩) (by simp) _
        clear hlen
        go_wp2_with fail
        go_roundg q
        case measure => omega
        case rel => exact ⟨k + 1, by omega, by go_num, hn2, hb2⟩
      · have hkn : k = m := by omega
        subst hkn
        go_wp2_with fail
        go_ret
        rw [halfn] at hcs
        exact ⟨(w.heap.size + 2), (w.heap.size), (w.heap.size + 1), rfl, hcs.out, by omega, by omega, by omega, hbr⟩
  · have hC : Hid (Cs (((w.alloc (.cells (madeCells #[.int .i64 0] m) 3)).alloc (.cells (madeCells #[.int .i64 0] n) 2)).alloc (.cells #[.slice (some ⟨w.heap.size + 1, 0, none⟩) n n, .slice (some ⟨w.heap.size, 0, none⟩) m m, .int .i64 0] 40)).drew 40 (w.heap.size + 2) (w.heap.size + 1) (w.heap.size) ⟨List.replicate n 0, List.replicate m 0, 0⟩) := cs_second
    have hB : Below w.heap.size w (((w.alloc (.cells (madeCells #[.int .i64 0] m) 3)).alloc (.cells (madeCells #[.int .i64 0] n) 2)).alloc (.cells #[.slice (some ⟨w.heap.size + 1, 0, none⟩) n n, .slice (some ⟨w.heap.size, 0, none⟩) m m, .int .i64 0] 40)).drew := ((((Below.refl _ _).alloc (Nat.le_refl _) _).alloc (by simp) _).alloc (by simp; omega) _).drew
    clear mk1 mk2
    go_wp2_with fail
    generalize (((w.alloc (.cells (madeCells #[.int .i64 0] m) 3)).alloc (.cells (madeCells #[.int .i64 0] n) 2)).alloc (.cells #[.slice (some ⟨w.heap.size + 1, 0, none⟩) n n, .slice (some ⟨w.heap.size, 0, none⟩) m m, .int .i64 0] 40)).drew = wN at hC hB ⊢
    go_loopg [6] m (fun q s6 w' => ∃ k : Nat, k + q = m ∧ s6 = .int .i64 k ∧ Hid (Cs w' 40 (w.heap.size + 2) (w.heap.size + 1) (w.heap.size) ⟨List.replicate n 0, half m k (-1), 0⟩) ∧ Below w.heap.size w w')
    case atStart => exact ⟨0, by omega, rfl, by rw [half0]; exact hC, hB⟩
    case round =>
      obtain ⟨k, hk, rfl, hcs, hbr⟩ := hrel
      by_cases hlt : k < m
      · obtain ⟨q, rfl⟩ : ∃ q, gk = q + 1 := ⟨gk - 1, by omega⟩
        have hlen : (half m k (-1)).length = m := half_len m k (-1) (by omega)
        have c1 : wr.cell? ⟨(w.heap.size + 2), 1, none⟩ = some (.slice (some ⟨(w.heap.size), 0, none⟩) m m) := by
          have := hcs.out.c.cell 1
          simpa [hlen] using this
        have c2 : wr.cell? ⟨(w.heap.size), k, none⟩ = some (.int .i64 (gI (half m k (-1)) k)) := blk_ints_cell hcs.out.ch (by rw [hlen]; exact hlt)
        have z2 : wr.frozen? ⟨(w.heap.size), k, none⟩ = false := hcs.out.ch.thaw k
        have hn2 : Hid (Cs (wr.setCell ⟨(w.heap.size), k, none⟩ (.int .i64 (-1))) 40 (w.heap.size + 2) (w.heap.size + 1) (w.heap.size) ⟨List.replicate n 0, half m (k + 1) (-1), 0⟩) := by
          have := hcs.out.setH k (-1)
          simp only [half_set m k (-1) hlt] at this
          exact this
        have hb2 : Below w.heap.size w (wr.setCell ⟨(w.heap.size), k, none⟩ (.int .i64 (-1))) := hbr.setCell (p := ⟨(w.heap.size), k, none⟩) (by simp) _
        clear hlen
        go_wp2_with fail
        go_roundg q
        case measure => omega
        case rel => exact ⟨k + 1, by omega, by go_num, hn2, hb2⟩
      · have hkn : k = m := by omega
        subst hkn
        go_wp2_with fail
        go_ret
        rw [halfn] at hcs
        exact ⟨(w.heap.size + 2), (w.heap.size + 1), (w.heap.size), rfl, hcs.out, by omega, by omega, by omega, hbr⟩
end Go.Proofs.Ytbpfeokheebmdaa.Ct

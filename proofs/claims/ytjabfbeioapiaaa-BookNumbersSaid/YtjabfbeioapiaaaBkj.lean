/- Contract of book's Begin: a book in which nothing came. Condition: the Config has not too many accounts. -/
import Derived.Test.YtjabfbeioapiaaaBcl
import Derived.Test.YtjabfbeioapiaaaBks
import Derived.Test.YtjabfbeioapiaaaCrdC
import Derived.Test.YtjabfbeioapiaaaStk
import Derived.Deep.DeepCutAuto
import Derived.Laws.MakeOwn
namespace Go.Proofs.Ytjabfbeioapiaaa.Bkj
set_option maxRecDepth 100000
open Go.ChangeShapes Go.WideShapes Go.ChangeAt Go.RowKit Mem Tre Ref3 Law3 Crd CrdB CrdC Bkp Bks Bcl Stk
set_option linter.unusedVariables false
set_option linter.unusedSimpArgs false
def zRow : Array Value := #[.slice none 0 0, .int .i64 0, .int .i64 0]
theorem made_rows (n : Nat) : (madeCells zRow (n * 3)).toList = rcs (List.replicate n rc0) := by
  apply List.ext_getElem?
  intro i
  by_cases h : i < n * 3
  · have e1 : (rcs (List.replicate n rc0))[i]? = (rcV rc0)[i % 3]? := by
      have h3 := rcs_get (List.replicate n rc0) (i / 3) (i % 3) (by rw [List.length_replicate]; omega) (by omega)
      have e2 : gC (List.replicate n rc0) (i / 3) = rc0 := by
        have : i / 3 < n := by omega
        simp [gC, this]
      rw [e2] at h3
      rw [← h3]
      congr 1
      omega
    rw [e1]
    have e4 : (madeCells zRow (n * 3)).toList[i]? = some (zRow[i % 3]!) := by
      unfold madeCells
      have e5 : zRow.size = 3 := rfl
      simp [e5, h]
    rw [e4]
    rcases (by omega : i % 3 = 0 ∨ i % 3 = 1 ∨ i % 3 = 2) with h0 | h0 | h0 <;> rw [h0] <;> rfl
  · rw [List.getElem?_eq_none (by simp [madeCells]; omega), List.getElem?_eq_none (by rw [rcs_len, List.length_replicate]; omega)]
def beginF (n : Nat) (sh : Int) : Bk := ⟨sh, 0, List.replicate n ro0, []⟩
set_option maxHeartbeats 4000000 in
theorem bbegin_any (sk wi ra ta : Int) (A1 A2 A3 : Option Addr) (n1 n2 n3 c1 c2 c3 : Nat) (sh : Int) (w : World) (hmax : n2 ≤ 1000) :
    Calls Try.prog 7 #[.agg #[.int .i64 sk, .int .i64 wi, .int .i64 ra, .int .i64 ta, .slice A1 n1 c1, .slice A2 n2 c2, .slice A3 n3 c3], .int .i64 sh] w (MadeBk (beginF n2 sh) w) := by
  obtain ⟨i0, hi, hz0, hz1, hz2⟩ := info_parts infoR
  have hmk := fun (W : World) => run_make (P := Try.prog) W 34 68 i0 _ Try.underlying34 hi hz0 .i64 .i64 (n2 : Int) (n2 : Int) (by omega) (by omega) (by rw [hz2]; omega) (by omega)
  simp only [Int.toNat_natCast, hz1] at hmk
  have hmk2 : ∀ W : World, (Instr.makeSlice 34 (.int .i64 (n2 : Int)) (.int .i64 (n2 : Int))).run Try.prog W = .ok (.slice (some ⟨W.heap.size, 0, none⟩) n2 n2) (W.alloc (.cells (madeCells zRow (n2 * 3)) 68)) := fun W => by first | exact hmk W | simpa [zRow] using hmk W
  have b0 : Hid (Below w.heap.size w (((w.alloc (.cells #[.int .i64 sk, .int .i64 wi, .int .i64 ra, .int .i64 ta, .slice A1 n1 c1, .slice A2 n2 c2, .slice A3 n3 c3] 32)).alloc (.cells #[.int .i64 sh, .int .i64 0, .slice (some ⟨w.heap.size + 1 + 1, 0, none⟩) n2 n2, .slice none 0 0] 37)).alloc (.cells (madeCells zRow (n2 * 3)) 68))) := (((Below.refl _ _).alloc (Nat.le_refl _) _).alloc (by simp) _).alloc (by simp <;> omega) _
  have K0 : Hid (Blk (((w.alloc (.cells #[.int .i64 sk, .int .i64 wi, .int .i64 ra, .int .i64 ta, .slice A1 n1 c1, .slice A2 n2 c2, .slice A3 n3 c3] 32)).alloc (.cells #[.int .i64 sh, .int .i64 0, .slice (some ⟨w.heap.size + 1 + 1, 0, none⟩) n2 n2, .slice none 0 0] 37)).alloc (.cells (madeCells zRow (n2 * 3)) 68)) (w.heap.size + 1) 37 #[.int .i64 sh, .int .i64 0, .slice (some ⟨w.heap.size + 1 + 1, 0, none⟩) n2 n2, .slice none 0 0]) := Blk.alloc (blk_hd (by simp)) _
  have Z0 : Hid (Blk (((w.alloc (.cells #[.int .i64 sk, .int .i64 wi, .int .i64 ra, .int .i64 ta, .slice A1 n1 c1, .slice A2 n2 c2, .slice A3 n3 c3] 32)).alloc (.cells #[.int .i64 sh, .int .i64 0, .slice (some ⟨w.heap.size + 1 + 1, 0, none⟩) n2 n2, .slice none 0 0] 37)).alloc (.cells (madeCells zRow (n2 * 3)) 68)) (w.heap.size + 1 + 1) 68 (madeCells zRow (n2 * 3))) := blk_hd (by simp)
  clear hmk
  go_enter Try.func7, Try.ntmps7
  go_wp2_with fail
  obtain ⟨k0, k1, k2, k3⟩ := q4_of K0.out
  have hfin : MadeBk (beginF n2 sh) w (.returned (.agg #[.int .i64 sh, .int .i64 0, .slice (some ⟨w.heap.size + 1 + 1, 0, none⟩) n2 n2, .slice none 0 0])) (((w.alloc (.cells #[.int .i64 sk, .int .i64 wi, .int .i64 ra, .int .i64 ta, .slice A1 n1 c1, .slice A2 n2 c2, .slice A3 n3 c3] 32)).alloc (.cells #[.int .i64 sh, .int .i64 0, .slice (some ⟨w.heap.size + 1 + 1, 0, none⟩) n2 n2, .slice none 0 0] 37)).alloc (.cells (madeCells zRow (n2 * 3)) 68)) := by
    refine ⟨some ⟨w.heap.size + 1 + 1, 0, none⟩, none, n2, 0, List.replicate n2 rc0, ?_, ⟨?_, ?_, ?_, .inl rfl⟩, b0.out⟩
    · simp [bkA, beginF]
    · exact Z0.out.rd' (made_rows n2)
    · simp [beginF, rc0]
    · intro i hi
      have e : gC (List.replicate n2 rc0) i = rc0 := by
        rw [List.length_replicate] at hi
        simp [gC, hi]
      rw [e]
      exact .inl rfl
  exact bodyPost_ret (v := .agg #[.int .i64 sh, .int .i64 0, .slice (some ⟨w.heap.size + 1 + 1, 0, none⟩) n2 n2, .slice none 0 0]) (by simp [results, Try.results7, go_sem, k0, k1, k2, k3]) rfl hfin
end Go.Proofs.Ytjabfbeioapiaaa.Bkj
